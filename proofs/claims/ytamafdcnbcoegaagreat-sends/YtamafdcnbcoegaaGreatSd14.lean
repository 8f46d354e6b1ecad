/-
  Part 14 of a proof: L23, K19, L24, L25, U3, L26, T4, T6, U4.
-/
import Derived.Maps.AppendAt
import Derived.Sort.CutIn
import Derived.Test.YtamafdcnbcoegaaGreatSd13
namespace Go.Proofs.YtamafdcnbcoegaaGreat
open Go.RowKit
attribute [local go_sem] Oper.semAt_some
/-- A list of one frame. -/
def OneF (B : Nat) (FB : List UInt8) (v : Value) (z : World) : Prop := ∃ g vb, v = .slice (some ⟨g, 0, none⟩) 1 1 ∧ B ≤ g ∧ z.heap[g]? = some (.cells #[vb] 44 (0, 0)) ∧ Owns B z vb FB
theorem owns_far {B : Nat} {w z : World} {v : Value} {l : List UInt8} {E : Nat → Prop} (h : Owns B w v l) (hF : Far E w z) (hE : ∀ k, E k → k < B) : Owns B z v l :=
  ownsRow_keep h (fun k hk => hF.rest k (World.ownsRow.lt h k hk).2 (fun e => by have := hE k e; have := (World.ownsRow.lt h k hk).1; omega))
theorem owns_below {B : Nat} {w z : World} {v : Value} {l : List UInt8} (h : Owns B w v l) (hb : Below w.heap.size w z) : Owns B z v l :=
  ownsRow_keep h (fun k hk => hb.block k (World.ownsRow.lt h k hk).2)
theorem stable_owns (B : Nat) (l : List UInt8) : Stable (fun v z => Owns B z v l) := fun _ _ _ h hb => owns_below h hb
theorem stableF_owns {B : Nat} {l : List UInt8} {E : Nat → Prop} (hE : ∀ k, E k → k < B) : StableF E (fun v z => Owns B z v l) := fun _ _ _ h hF => owns_far h hF hE
theorem stable_oneF (B : Nat) (FB : List UInt8) : Stable (OneF B FB) := fun _ _ _ h hb => by
  obtain ⟨g, vb, e, h1, h2, h3⟩ := h
  exact ⟨g, vb, e, h1, (hb.block g (lt_of_block h2)).trans h2, owns_below h3 hb⟩
theorem stableF_oneF {B : Nat} {FB : List UInt8} {E : Nat → Prop} (hE : ∀ k, E k → k < B) : StableF E (OneF B FB) := fun _ _ _ h hF => by
  obtain ⟨g, vb, e, h1, h2, h3⟩ := h
  exact ⟨g, vb, e, h1, hF.blk h2 (fun e => by have := hE _ e; omega), owns_far h3 hF hE⟩
/-- The list of frames, and a frame more. -/
def RowF (B b0 : Nat) (lv : Value) (fs : List Value) (FB : List UInt8) (v : Value) (z : World) : Prop := ∃ vb, z.ownsRow b0 44 1 v (fs.length + 1) (fs ++ [vb]) ∧ Owns B z vb FB ∧ ∀ k, v.ownBlock = some k → lv.ownBlock = some k ∨ B ≤ k
theorem stable_rowF (B b0 : Nat) (lv : Value) (fs : List Value) (FB : List UInt8) : Stable (RowF B b0 lv fs FB) := fun _ _ _ h hb => by
  obtain ⟨vb, h1, h2, h3⟩ := h
  exact ⟨vb, ownsRow_keep h1 (fun k hk => hb.block k (World.ownsRow.lt h1 k hk).2), owns_below h2 hb, h3⟩
theorem stableF_rowF {B b0 : Nat} {lv : Value} {fs : List Value} {FB : List UInt8} {E : Nat → Prop} (hE : ∀ k, E k → k < B ∧ k < b0) : StableF E (RowF B b0 lv fs FB) := fun _ _ _ h hF => by
  obtain ⟨vb, h1, h2, h3⟩ := h
  exact ⟨vb, ownsRow_keep h1 (fun k hk => hF.rest k (World.ownsRow.lt h1 k hk).2 (fun e => by have := (hE k e).2; have := (World.ownsRow.lt h1 k hk).1; omega)), owns_far h2 hF (fun k e => (hE k e).1), h3⟩
/-- An append of own rows, as an operation of a region in a round. -/
theorem stepIn_app_own {ops : Array Oper} {o : Oper} {a : Act} {K : Act → World → Prop} {Q : Exit → Act → World → Prop} {E : Prop} {w : World} {lr n0 : Nat} (hgd : o.guard = none) (s x : Operand) (t : TypeId) (ho : o.op = .call { callee := .builtin .append, args := #[s, x], argTypes := #[t, t] })
    (base : Nat) (e : TypeId) (z : Value) (size bytes : Nat) (ht : Tryz.prog.underlying t = some (.slice e)) (hinfo : (Tryz.prog.info? e).map (fun i => (i.zero, i.size, i.bytes)) = some (some z, size, bytes)) (hzs : z.cells.size = size) (hsz : 0 < size)
    (v : Value) (n : Nat) (xs : List Value) (hown : w.ownsRow base e size v n xs) (hs : a.eval s = v) (ad : Addr) (m c : Nat) (news : List Value) (hx : a.eval x = .slice (some ad) m c) (hl : news.length = m * size) (hnews : ∀ j u, news[j]? = some u → w.cell? (ad.add j) = some u)
    (h1 : ∀ u ∈ news, u.oneCell' = true) (h63 : n + m ≤ maxLen) (hb : (n + m) * bytes ≤ 140737488355328) (hbase : base ≤ w.heap.size)
    (h : ∀ v' w', w'.ownsRow base e size v' (n + m) (xs ++ news) → w.grownBy w' v.ownBlock → (v'.ownBlock = v.ownBlock ∨ v'.ownBlock = some w.heap.size) → K (a.put o.dst v') w') : if Region.wanted o (yielded ops a.tmps) = true then o.wpIn (Fence.wide.inRound lr) n0 Tryz.prog a w K Q else E := by
  rw [if_pos (by simp [Region.wanted, hgd])]
  obtain ⟨i0, hi, hz0, hz1, hz2⟩ := info_parts2 hinfo
  obtain ⟨v', w', hr, h2, h3, _, h5⟩ := run_append_own_at (P := Tryz.prog) (w := w) base t o.type e i0 z size bytes ht hi hz0 hz1 hz2 hzs hsz v n xs hown ad m c news hl hnews h1 h63 hb hbase
  unfold Oper.wpIn
  refine ⟨by simp [Oper.about, ho, resolve, Target.leads, Sem.run_pure], ?_⟩
  rw [Oper.semAt_plain _ _ _ (by rw [ho]; intro c hc'; cases hc')]
  simp [execOp, ho, resolve, invoke, builtin, hs, hx, hr, Result.andThen]
  exact h v' w' h2 h3 h5
theorem sendTo_cnt (e s : Nat) (f : Mod.Flow) (t : Nat) : ∀ k, (Mod.sendTo e s f t k).2.length ≤ k
  | 0 => Nat.le_refl _
  | k + 1 => by
    have ih := sendTo_cnt e s f t k
    by_cases h : k < f.kept.length
    · cases hd : Mod.due f t k f.kept[k].2 with
      | false => rw [sendTo_skip h hd]; omega
      | true => rw [sendTo_send h hd]; simp; omega
    · rw [sendTo_over (by omega)]; omega
section
variable {w W : World} {g0 p i : Nat} {c : Av} {st : Mod.Stv} {g : Nat → Nat} {free : List Nat} {sh : Nat → List (Nat × Value)} {pl : Nat → List Nat} {F : List ByteArray} {a : Mod.Ag} {tk k : Nat}
theorem SendI.due (h : SendI w g0 p i c st g free pl F (sentAg a i tk k) W) (hi : i < 3) (hk : k < (a.fl i).kept.length) (ht : (a.fl i).kept[k].2 ≤ 1000000000000) (htk : tk ≤ 1000000000000) :
    Calls Tryz.prog 138 #[.pointer (some ⟨p, 4 + i * 6, none⟩), .int .i64 ((a.fl i).base + 1 + k : Nat), .int .i64 tk] W fun r W' => r = .returned (.bool (Mod.due (a.fl i) tk k (a.fl i).kept[k].2)) ∧ Below W.heap.size W W' := by
  obtain ⟨lv, fs, c', sh, m1, m2, m3, m4, _⟩ := h.mid
  have hj : k < ((sentAg a i tk k).fl i).kept.length := by rw [sentAg_len]; exact hk
  have hg : ((sentAg a i tk k).fl i).kept[k] = (a.fl i).kept[k] := by
    have := sentAg_get (tk := tk) hk
    rw [List.getElem?_eq_getElem hj] at this
    injection this
  have := isDue_any m3 m4 hi k hj tk (a.fl i).kept[k].2 (by rw [hg]) ht htk
  rw [sentAg_due, sentAg_base] at this
  exact this
theorem SendI.tick (h : SendI w g0 p i c st g free pl F (sentAg a i tk k) W) : W.cell? ⟨p, 23, none⟩ = some (.int .i64 a.ticks) := by
  obtain ⟨lv, fs, c', sh, m1, m2, m3, m4, _⟩ := h.mid
  rw [blk_cell m3.ks.blk, m3.ks.at']
  rfl
end
section
variable {w : World} {p : Nat} {g : Nat → Nat} {free : List Nat} {sh : Nat → List (Nat × Value)} {st : Mod.Stv} {c : Av} {a : Mod.Ag} {pl : Nat → List Nat}
set_option maxRecDepth 100000 in
set_option maxHeartbeats 4000000 in
theorem agSend_any (H : PaAt w p g a.ticks a.welcome a.fenced free sh st c) (O : OnAg a st.opening g free sh pl) (i : Nat) (hi3 : i < 3) (ht0 : a.ticks ≠ 0) (htk : a.ticks ≤ 1000000000000) (hbnd : (a.fl i).base + (a.fl i).kept.length < 4294967296) (hbod : ∀ x ∈ (a.fl i).kept, x.1.size ≤ 20 ∧ x.2 ≤ 1000000000000) :
    Calls Tryz.prog 93 #[ptrTo p, .int .i64 i] w fun r z => ∃ lv fs c' sh', r = .returned lv ∧ FramesOut w.heap.size z lv fs (sentFr a i a.ticks 4) (PaU p c') ∧ PaAt z p g a.ticks a.welcome a.fenced free sh' st c' ∧ OnAg (sentAg a i a.ticks 4) st.opening g free sh' pl ∧ Far (PaU p c) w z ∧ (∀ j, PaU p c' j → PaU p c j ∨ w.heap.size ≤ j) ∧ c'.s = c.s ∧ c'.rv = c.rv := by
  have hpl := lt_of_block H.ks.blk
  have hi0 : (0 : Int) ≤ (i : Int) := by omega
  have hi3' : (i : Int) < 3 := by omega
  have HH := hide (And.intro H O)
  clear H O
  unfold ptrTo at *
  refine callsIn_wide.1 (callsIn_of_wp_marks (n := 5) Tryz.func93 rfl trivial ?_ rfl)
  refine wpIn_wide.2 ?_
  simp only [Tryz.ntmps93, List.size_toArray, List.length_cons, List.length_nil, Nat.reduceAdd, Nat.reduceSub, Array.replicate_succ, Array.replicate_zero, List.push_toArray, List.append_toArray, List.nil_append, List.cons_append]
  go_upto_region 2 with fail
  obtain ⟨g0, hg0⟩ : ∃ g0, g0 = w.heap.size := ⟨_, rfl⟩
  have HG0 := hide hg0
  rw [← hg0]
  refine wp_world (fun x => x.heap[g0]? = some (.cells #[.pointer (some ⟨p, 0, none⟩)] 88 (0, 0)) ∧ x.heap[g0 + 1]? = some (.cells #[.int .i64 i] 3 (0, 0)) ∧ x.heap[g0 + 2]? = some (.cells #[.slice none 0 0] 38 (0, 0)) ∧ Below g0 w x ∧ x.heap.size = g0 + 3) ?_ ?_
  · rw [hg0]
    have hA := heap_alloc_new w (.cells #[.pointer (some ⟨p, 0, none⟩)] 88)
    have hB := heap_alloc_new (w.alloc (.cells #[.pointer (some ⟨p, 0, none⟩)] 88)) (.cells #[.int .i64 i] 3)
    have hC := heap_alloc_new ((w.alloc (.cells #[.pointer (some ⟨p, 0, none⟩)] 88)).alloc (.cells #[.int .i64 i] 3)) (.cells #[.slice none 0 0] 38)
    simp only [World.size_alloc] at hB hC
    refine ⟨?_, ?_, hC, ((((Below.refl _ _).alloc (Nat.le_refl _) _).alloc (by simp) _).alloc (by simp; omega) _), by simp⟩
    · rw [heap_alloc_old _ _ (by simp; omega), heap_alloc_old _ _ (by simp)]; exact hA
    · rw [heap_alloc_old _ _ (by simp)]; exact hB
  clear hg0
  rintro x ⟨h0, h1, h2, hb, hsz⟩
  have c0 := blk_cell (i := 0) h0
  have c1 := blk_cell (i := 0) h1
  simp at c0 c1
  have HX := hide (And.intro h0 (And.intro h1 (And.intro h2 (And.intro hb hsz))))
  have hx0 : g0 < x.heap.size := by omega
  have hx1 : g0 + 1 < x.heap.size := by omega
  clear h0 h1 h2 hb
  go_region
  go_upto_region 3 with fail
  refine wp_world (fun y => y.heap[g0]? = some (.cells #[.pointer (some ⟨p, 0, none⟩)] 88 (0, 0)) ∧ y.heap[g0 + 1]? = some (.cells #[.int .i64 i] 3 (0, 0)) ∧ y.heap[g0 + 2]? = some (.cells #[.slice none 0 0] 38 (0, 0)) ∧ y.heap[g0 + 3]? = some (.cells #[.pointer (some ⟨p, 4 + i * 6, none⟩)] 213 (0, 0)) ∧ Below g0 w y ∧ y.heap.size = g0 + 4) ?_ ?_
  · obtain ⟨h0, h1, h2, hb, hsz⟩ := unhide HX
    exact ⟨(heap_alloc_old _ _ (by omega)).trans h0, (heap_alloc_old _ _ (by omega)).trans h1, (heap_alloc_old _ _ (by omega)).trans h2, by have := heap_alloc_new x (.cells #[.pointer (some ⟨p, 4 + i * 6, none⟩)] 213); rw [hsz] at this; exact this, (hb.alloc (by omega) _).drew, by show (x.alloc _).heap.size = _; simp; omega⟩
  clear HX c0 c1 hx0 hx1 hsz
  rintro y ⟨h0, h1, h2, h3, hb, hsz⟩
  have c3 := blk_cell (i := 0) h3
  simp at c3
  have HY := hide (And.intro h0 (And.intro h1 (And.intro h2 (And.intro h3 (And.intro hb hsz)))))
  clear h0 h1 h2 h3 hb
  go_wp2_with (go_at_call 137; refine (firstA_any _ _ _ _).mono ?_; rintro e z ⟨rfl, hz⟩)
  obtain ⟨h0, h1, h2, h3, hb, _⟩ := unhide HY
  have hD : z.heap.size = g0 + 6 := by rw [hz]; simp [boxed2, hsz]
  have hq : ∀ k, k < g0 + 4 → z.heap[k]? = y.heap[k]? := fun k hk => by
    rw [hz]
    unfold boxed2
    rw [heap_alloc_old _ _ (by simp; omega), heap_alloc_old _ _ (by omega)]
  have hz4 : z.heap[g0 + 4]? = some (.cells #[.pointer (some ⟨p, 4 + i * 6, none⟩)] 209 (0, 0)) := by
    rw [hz]
    unfold boxed2
    rw [heap_alloc_old _ _ (by simp; omega), ← hsz]
    exact heap_alloc_new _ _
  have hz5 : z.heap[g0 + 5]? = some (.cells #[.int .i64 4] 3 (0, 0)) := by
    rw [hz]
    unfold boxed2
    have := heap_alloc_new (y.alloc (.cells #[.pointer (some ⟨p, 4 + i * 6, none⟩)] 209)) (.cells #[.int .i64 4] 3)
    rw [World.size_alloc, hsz] at this
    exact this
  have hbz : Below g0 w z := by
    rw [hz]
    unfold boxed2
    exact (hb.alloc (by omega) _).alloc (by simp; omega) _
  have HZ := hide (And.intro ((hq g0 (by omega)).trans h0) (And.intro ((hq (g0 + 1) (by omega)).trans h1) (And.intro ((hq (g0 + 2) (by omega)).trans h2) (And.intro ((hq (g0 + 3) (by omega)).trans h3) (And.intro hz4 (And.intro hz5 hbz))))))
  rw [← hz]
  clear h0 h1 h2 h3 hb hq hz4 hz5 hbz hz HY c3
  obtain ⟨tk, htk2⟩ : ∃ tk, tk = a.ticks := ⟨_, rfl⟩
  have HTK := hide htk2
  have htk0 : tk ≠ 0 := by omega
  have htkm : tk ≤ 1000000000000 := by omega
  clear htk2
  have hlen : (keptL (a.fl i).base (a.fl i).kept (pl i)).length = (a.fl i).kept.length := keptL_length _ _ _ ((unhide HH).2.pn i hi3)
  refine wpIn_wide.1 (range_first (n := 5) (b := g0 + 4) (p := p) (o := 4 + i * 6) (m := 4) (c.nv (i * 3)) (c.mv (i * 3)) (keptL (a.fl i).base (a.fl i).kept (pl i)) (keptL_are _ _ _) rfl rfl (fun k W => SendI w g0 p i c st g free pl (sentFr a i tk k) (sentAg a i tk k) W) ?_ ?_ ?_ ?_ ?_ ?_)
  · intro k W W' h hS
    rw [hD] at hS
    exact h.same2 hS
  · exact fun k W h => h.iterK hi3
  · intro W hbW hszW
    obtain ⟨h0, h1, h2, h3, h4, h5, hbz⟩ := unhide HZ
    have hk := fun k (hk : k < z.heap.size) => hbW.block k hk
    exact sendI_start (unhide HH).1 (unhide HH).2 (unhide HG0) (hbz.trans (hbW.mono (by omega))) ((hk _ (by omega)).trans h0) ((hk _ (by omega)).trans h1) ((hk _ (by omega)).trans h2) ((hk _ (by omega)).trans h3) ((hk _ (by omega)).trans h4) ((hk _ (by omega)).trans h5) (by omega)
  · intro k hk W hk4 hI hle
    rw [hD] at hle ⊢
    have hkL : k < (a.fl i).kept.length := by rw [hlen] at hk; exact hk
    have hget : (keptL (a.fl i).base (a.fl i).kept (pl i))[k] = ((a.fl i).base + 1 + k, recA (a.fl i).kept[k].1 ((pl i).getD k 0)) := by
      have h1 := keptL_get (a.fl i).base (a.fl i).kept (pl i) k ((unhide HH).2.pn i hi3) hkL
      rw [List.getElem?_eq_getElem hk] at h1
      injection h1
    rw [hget]
    obtain ⟨bk, hbk⟩ : ∃ bk, bk = (a.fl i).kept[k].1 := ⟨_, rfl⟩
    obtain ⟨nk, hnk⟩ : ∃ nk, nk = (a.fl i).base + 1 + k := ⟨_, rfl⟩
    rw [← hbk, ← hnk]
    generalize (pl i).getD k 0 = q
    have HBK := hide (And.intro hbk hnk)
    obtain ⟨g8, hg8⟩ : ∃ g8, g8 = W.heap.size := ⟨_, rfl⟩
    have hg8' : g0 + 8 ≤ g8 := by omega
    have HG8 := hide hg8
    have HI := hide hI
    clear hbk hnk hget hI HZ hk
    unfold recA
    gi_wp2
    refine ⟨⟨heap_alloc_old _ _ (by omega), heap_alloc_old _ _ (by omega)⟩, ?_⟩
    intro W2 hS
    rw [← hg8]
    have h8 : W2.heap[g8]? = some (.cells #[.string bk, .int .i64 q] 158 (0, 0)) := by
      rw [hS.rest g8 (by omega) (by omega), hg8]
      exact heap_alloc_new _ _
    have hI2 := ((unhide HI).below ((Below.refl _ _).alloc (Nat.le_refl _) _)).same2 hS
    obtain ⟨lv, fs, c', sh2, m1, m2, m3, m4, m5, m6, m7, m8, m9, m10⟩ := hI2.mid
    have d0 := blk_cell (i := 0) hI2.h0
    have d1 := blk_cell (i := 0) hI2.h1
    have d2 := blk_cell (i := 0) m1
    have d3 := blk_cell (i := 0) hI2.h3
    have d8 := blk_cell (i := 0) h8
    have d23 : W2.cell? ⟨p, 23, none⟩ = some (.int .i64 tk) := by rw [hI2.tick, unhide HTK]
    simp at d0 d1 d2 d3 d8
    have hbk20 : bk.size ≤ 20 ∧ (a.fl i).kept[k].2 ≤ 1000000000000 := by
      have := hbod _ (List.getElem_mem hkL)
      rw [(unhide HBK).1]
      exact this
    have hnk : nk < 4294967296 := by have := (unhide HBK).2; omega
    have hDUE := fun x (hb : Below W2.heap.size W2 x) => hide ((hI2.below hb).due hi3 hkL hbk20.2 htkm)
    rw [← (unhide HBK).2] at hDUE
    obtain ⟨dd, hdd⟩ : ∃ dd, dd = Mod.due (a.fl i) tk k (a.fl i).kept[k].2 := ⟨_, rfl⟩
    rw [← hdd] at hDUE
    have HDD := hide hdd
    have HI2 := hide hI2
    have hl0 := lt_of_block hI2.h0
    have hl1 := lt_of_block hI2.h1
    have hl3 := lt_of_block hI2.h3
    have hl8 := lt_of_block h8
    have hlp : p < W2.heap.size := lt_of_block m3.ks.blk
    have H8 := hide h8
    clear hg8 hS h8 m1 m2 m3 m4 m5 m6 m7 m8 m9 m10 hI2 hdd
    gi_upto_region 6 with fail
    refine wpIn_region_frame (by kernel_rfl)
      [fun v _ => v = .pointer (some ⟨p, 4 + i * 6, none⟩), fun v _ => v = .int .i64 nk, fun v _ => v = .pointer (some ⟨p, 0, none⟩), fun v _ => v = .pointer (some ⟨p, 0, none⟩), fun v _ => v = .pointer (some ⟨p, 23, none⟩), fun v _ => v = .int .i64 tk, fun v _ => v = .bool dd]
      [[(6, none)], [(7, none)], [(2, none)], [(22, some 2)], [(23, some 3)], [(24, some 4)], [(20, some 0), (21, some 1), (25, some 5)]] [some 20, some 21, some 22, some 23, some 24, some 25, some 26] [false, false, false, false, false, false, false, false, false, false, false, false, false, false, false, false, false, false, false, false, true, true, true, true, true, true, true, false, false, false, false, false, false, false, false, false, false, false, false, false, false, false, false, false, false, false, false, false]
      (by kernel_rfl) (by kernel_rfl) (by kernel_rfl) (by kernel_rfl) ?_ ?_ ?_
    · repeat' (first | exact stable_eq _ | exact trivial | apply And.intro)
    · refine ⟨?_, ?_, ?_, ?_, ?_, ?_, ?_, trivial⟩
      all_goals
        intro b x hb hf
        have z0 := (hb.cell (p := ⟨g0, 0, none⟩) hl0).trans d0
        have z3 := (hb.cell (p := ⟨g0 + 3, 0, none⟩) hl3).trans d3
        have z23 := (hb.cell (p := ⟨p, 23, none⟩) hlp).trans d23
        have HC := hide (unhide (hDUE x hb))
        clear hb hDUE
        simp only [PlanFacts, List.getD_cons_zero, List.getD_cons_succ, Array.getD_eq_getD_getElem?] at hf
        try simp at hf
        try go_simp
      all_goals first
        | exact ⟨rfl, Below.refl _ _⟩
        | exact ⟨_, rfl, Below.refl _ _, rfl⟩
        | exact Below.refl _ _
        | (refine ⟨trivial, ((callsIn_wide.2 (unhide HC)).inRound _).mono ?_⟩; rintro r z ⟨rfl, hb⟩; exact ⟨_, rfl, hb, rfl⟩)
        | (refine ⟨trivial, ((callsIn_wide.2 (unhide HC)).inRound _).mono ?_⟩; rintro r z ⟨rfl, hb⟩; exact ⟨rfl, hb⟩)
        | skip
    intro f x hbx hwd
    simp only [AllWords] at hwd
    have h26 := hwd.2.2.2.2.2.2.1
    have HBX := hide hbx
    clear hwd hDUE hbx
    simp only [mergeT, h26]
    generalize f 20 = x20
    generalize f 21 = x21
    generalize f 22 = x22
    generalize f 23 = x23
    generalize f 24 = x24
    generalize f 25 = x25
    cases dd with
    | false =>
      gi_wp2
      have hsz := (unhide HI2).sz
      refine ⟨(unhide HBX).block _ (by omega), (unhide HBX).block _ (by omega), ?_⟩
      rw [sentFr_skip hkL (unhide HDD).symm, sentAg_skip hkL (unhide HDD).symm]
      exact (unhide HI2).below (unhide HBX)
    | true =>
      have hxs := (unhide HBX).size
      have e0 := ((unhide HBX).cell (p := ⟨g0, 0, none⟩) hl0).trans d0
      have e3 := ((unhide HBX).cell (p := ⟨g0 + 3, 0, none⟩) hl3).trans d3
      have e23 := ((unhide HBX).cell (p := ⟨p, 23, none⟩) hlp).trans d23
      have X0 : g0 < x.heap.size := by omega
      have X3 : g0 + 3 < x.heap.size := by omega
      have XP : p < x.heap.size := by omega
      clear d0 d1 d2 d3 d8 d23
      have HPUT := fun y (hb : Below x.heap.size x y) => hide (((unhide HI2).below ((unhide HBX).trans (hb.mono hxs))).put hi3 hkL (unhide HDD).symm htk0)
      rw [← (unhide HBK).2] at HPUT
      gi_upto_region 7 with fail
      refine wpIn_region_last (by kernel_rfl)
        [fun v _ => v = .pointer (some ⟨p, 4 + i * 6, none⟩), fun v _ => v = .pointer (some ⟨p, 4 + i * 6, none⟩), fun v _ => v = .pointer (some ⟨p, 4 + i * 6 + 2, none⟩), fun v _ => v = .int .i64 nk, fun v _ => v = .pointer (some ⟨p, 0, none⟩), fun v _ => v = .pointer (some ⟨p, 0, none⟩), fun v _ => v = .pointer (some ⟨p, 23, none⟩), fun v _ => v = .int .i64 tk, fun _ _ => True]
        [[(6, none)], [(27, some 0)], [(28, some 1)], [(7, none)], [(2, none)], [(31, some 4)], [(32, some 5)], [(33, some 6)], [(29, some 2), (30, some 3), (34, some 7)]] [some 27, some 28, some 29, some 30, some 31, some 32, some 33, some 34, some 35] [false, false, false, false, false, false, false, false, false, false, false, false, false, false, false, false, false, false, false, false, false, false, false, false, false, false, false, true, true, true, true, true, true, true, true, true, false, false, false, false, false, false, false, false, false, false, false, false]
        8 _ rfl rfl (by kernel_rfl) (by kernel_rfl) (by kernel_rfl) (by kernel_rfl) (by kernel_rfl) (by kernel_rfl) ?_ ?_ ?_
      · repeat' (first | exact stable_eq _ | exact stable_true | exact trivial | apply And.intro)
      · refine ⟨?_, ?_, ?_, ?_, ?_, ?_, ?_, ?_, trivial⟩
        all_goals
          intro b y hb hf
          have z0 := (hb.cell (p := ⟨g0, 0, none⟩) X0).trans e0
          have z3 := (hb.cell (p := ⟨g0 + 3, 0, none⟩) X3).trans e3
          have z23 := (hb.cell (p := ⟨p, 23, none⟩) XP).trans e23
          clear hb HPUT
          simp only [PlanFacts, List.getD_cons_zero, List.getD_cons_succ, Array.getD_eq_getD_getElem?] at hf
          try simp at hf
          try go_simp
        all_goals first
          | exact ⟨rfl, Below.refl _ _⟩
          | exact ⟨_, rfl, Below.refl _ _, rfl⟩
          | exact Below.refl _ _
          | skip
      intro f2 y hby hwd
      simp only [AllWords, List.take] at hwd
      have g29 := hwd.2.2.1
      have g30 := hwd.2.2.2.1
      have g34 := hwd.2.2.2.2.2.2.2.1
      have HP := hide (unhide (HPUT y hby))
      have HBY := hide ((unhide HBX).trans (hby.mono hxs))
      clear hwd HPUT hby e0 e3 e23
      simp only [mergeT, g29, g30, g34]
      generalize f2 27 = y27
      generalize f2 28 = y28
      generalize f2 31 = y31
      generalize f2 32 = y32
      generalize f2 33 = y33
      go_simp
      refine ⟨trivial, ((callsIn_wide.2 (unhide HP)).inRound _).mono ?_⟩
      rintro r z ⟨rfl, hI, hq6, hq7, hsz, hrec⟩
      have hyW := (unhide HBY).size
      have h8z := (hrec g8 _ (((unhide HBY).block g8 hl8).trans (unhide H8))).trans (((unhide HBY).block g8 hl8).trans (unhide H8))
      have hq6 := hq6.trans ((unhide HBY).block _ (by have := (unhide HI2).sz; omega))
      have hq7 := hq7.trans ((unhide HBY).block _ (by have := (unhide HI2).sz; omega))
      have HQ := hide (And.intro hq6 hq7)
      obtain ⟨lv, fs, c', sh2, m1, m2, m3, m4, m5, m6, m7, m8, m9, m10⟩ := hI.mid
      have hlo := hI.lo
      have hzs := hI.sz
      have hln : fs.length ≤ 3 := by
        have h1 := m2.len
        have h2 := sendTo_cnt a.epoch i (a.fl i) tk k
        unfold sentFr at h1
        rw [List.length_map] at h1
        omega
      obtain ⟨lad, lcap, elv, _⟩ := (own_rowO m2.row).shape
      subst elv
      obtain ⟨ep, hep⟩ : ∃ ep, ep = st.opening := ⟨_, rfl⟩
      have hepa : ep = a.epoch := by rw [hep]; exact m4.ep
      have hep4 : ep < 4294967296 := by rw [hep]; exact m3.stt.op
      obtain ⟨FB, hFB⟩ : ∃ FB, FB = Wire.bytes 3 ep i nk bk.data.toList := ⟨_, rfl⟩
      have HFB := fun y => hide (frameBytes_small 3 ep i nk bk y (by omega) (by omega) (by omega) (by omega) (by omega))
      rw [← hFB] at HFB
      have hfr : sentFr a i tk (k + 1) = sentFr a i tk k ++ [⟨FB.toArray⟩] := by
        rw [sentFr_send hkL (unhide HDD).symm, hFB, hepa, (unhide HBK).1, (unhide HBK).2]
      have hlvb : ∀ j, (Value.slice lad fs.length lcap).ownBlock = some j → g0 + 8 ≤ j ∧ j < z.heap.size := fun j hj => m2.lt j (.inl hj)
      have hne8 : (Value.slice lad fs.length lcap).ownBlock ≠ some g8 := (own_rowO m2.row).ne h8z (by decide)
      have c0 := blk_cell (i := 0) hI.h0
      have c1 := blk_cell (i := 0) hI.h1
      have c2 := blk_cell (i := 0) m1
      have c8 := blk_cell (i := 0) h8z
      have f2z := blk_free (i := 0) m1
      simp at c0 c1 c2 c8
      have hEPz := fun y (c4 : Av) (K : PaAt y p g (sentAg a i tk (k + 1)).ticks (sentAg a i tk (k + 1)).welcome (sentAg a i tk (k + 1)).fenced free sh2 st c4) => hide (agEpoch_any K)
      rw [← hep] at hEPz
      have hlpz : ∀ j, j = g0 + 2 ∨ (Value.slice lad fs.length lcap).ownBlock = some j → ¬ PaU p c' j := fun j hj hu => by
        rcases hj with rfl | hj
        · rcases m6 _ hu with h | h
          · have := hlo _ h; omega
          · omega
        · exact m2.clear j (.inl hj) hu
      have HZ := hide (And.intro hI (And.intro m1 (And.intro m2 (And.intro m3 (And.intro m4 (And.intro m5 (And.intro m6 (And.intro m7 (And.intro m8 (And.intro m9 m10))))))))))
      have HH8 := hide h8z
      have HH1 := hide m1
      have HH0 := hide (And.intro hI.h0 hI.h1)
      have HK3 := hide m3
      have HFR := hide hfr
      clear hI m1 m2 m3 m4 m5 m6 m7 m8 m9 m10 hfr hFB hep hepa hrec h8z hq6 hq7
      unfold ptrTo at *
      gi_upto_region 8 with fail
      refine wpIn_region_foot (by kernel_rfl)
        [fun v _ => v = .slice lad fs.length lcap, fun v _ => v = .pointer (some ⟨p, 0, none⟩), fun v _ => v = .int .i64 ep, fun v _ => v = .int .i64 i, fun v _ => v = .int .i64 nk, fun v _ => v = .pointer (some ⟨g8, 0, none⟩), fun v _ => v = .string bk, fun v _ => v = .agg #[.int .i64 3, .int .i64 ep, .int .i64 i, .int .i64 nk, .string bk],
         fun v y => Owns z.heap.size y v FB, OneF z.heap.size FB, RowF z.heap.size (g0 + 8) (.slice lad fs.length lcap) fs FB, fun _ y => SendI w g0 p i c st g free pl (sentFr a i tk (k + 1)) (sentAg a i tk (k + 1)) y]
        [[(5, none)], [(2, none)], [(37, some 1)], [(3, none)], [(7, none)], [(8, none)], [(41, some 5)], [(38, some 2), (39, some 3), (40, some 4), (42, some 6)], [(43, some 7)], [(44, some 8)], [(36, some 0), (45, some 9)], [(5, none), (46, some 10)]] [some 36, some 37, some 38, some 39, some 40, some 41, some 42, some 43, some 44, some 45, some 46, none] [false, false, false, false, false, false, false, false, false, false, false, false, false, false, false, false, false, false, false, false, false, false, false, false, false, false, false, false, false, false, false, false, false, false, false, false, true, true, true, true, true, true, true, true, true, true, true, false]
        [(10, fun j => (Value.slice lad fs.length lcap).ownBlock = some j), (11, fun j => j = g0 + 2)]
        (by kernel_rfl) (by kernel_rfl) (by kernel_rfl) (by kernel_rfl) (by kernel_rfl) ?_ ?_ ?_ ?_
      · repeat' (first | exact stable_eq _ | exact stable_owns _ _ | exact stable_oneF _ _ | exact stable_rowF _ _ _ _ _ | exact (fun _ _ _ h hb => h.below hb) | exact trivial | apply And.intro)
      · repeat' (first | exact trivial | exact .inl rfl | exact .inr (.inr (stableF_eq _ _)) | exact .inr (.inr (stableF_owns (fun j hj => (hlvb j hj).2))) | exact .inr (.inr (stableF_oneF (fun j hj => (hlvb j hj).2))) | exact .inr (.inr (stableF_owns (fun j (hj : j = g0 + 2) => by omega))) | exact .inr (.inr (stableF_oneF (fun j (hj : j = g0 + 2) => by omega))) | exact .inr (.inr (stableF_rowF (fun j (hj : j = g0 + 2) => by omega))) | exact .inr (.inl (show depB _ 11 10 = true by decide +kernel)) | apply And.intro)
      · refine ⟨?_, ?_, ?_, ?_, ?_, ?_, ?_, ?_, ?_, ?_, ?_, ?_, trivial⟩
        all_goals
          intro b y hb hf
          have hzz := hb.size
          have HBZ := hide hb
          have hno : ∀ (ops : Array Oper) (ii j : Nat), j ≠ g0 + 2 → (Value.slice lad fs.length lcap).ownBlock ≠ some j → ¬ footBut [(10, fun j => (Value.slice lad fs.length lcap).ownBlock = some j), (11, fun j => j = g0 + 2)] ops ii j := fun ops ii j h1 h2 => footBut_no (by intro q hq; simp at hq; rcases hq with rfl | rfl; exact h2; exact h1)
          have hn2 : ∀ j, j < g0 + 8 → (Value.slice lad fs.length lcap).ownBlock ≠ some j := fun j h1 e => by have := (hlvb j e).1; omega
          have z0 := blk_cell (i := 0) (hb.blk (unhide HH0).1 (hno _ _ _ (by omega) (hn2 _ (by omega))))
          have z1 := blk_cell (i := 0) (hb.blk (unhide HH0).2 (hno _ _ _ (by omega) (hn2 _ (by omega))))
          have z8 := blk_cell (i := 0) (hb.blk (unhide HH8) (hno _ _ _ (by omega) hne8))
          simp at z0 z1 z8
          clear hb hno hn2
          simp only [PlanFacts, List.getD_cons_zero, List.getD_cons_succ, Array.getD_eq_getD_getElem?] at hf
          try simp at hf
        · have z2 := blk_cell (i := 0) ((unhide HBZ).blk (unhide HH1) (by
            rintro ⟨q, hq, g1, g2, g3⟩
            simp at hq
            rcases hq with rfl | rfl
            · have := (hlvb _ g3).1; omega
            · exact absurd (show depB _ 11 0 = false from g2) (by decide +kernel)))
          simp at z2
          go_simp
          first | exact ⟨_, rfl, Far.refl _ _, rfl⟩ | exact ⟨rfl, Far.refl _ _⟩ | exact Far.refl _ _
        · go_simp
          first | exact ⟨_, rfl, Far.refl _ _, rfl⟩ | exact ⟨rfl, Far.refl _ _⟩ | exact Far.refl _ _
        · have K := (unhide HK3).far (unhide HBZ) (fun j hu => footBut_no (by
            intro q hq
            simp at hq
            rcases hq with rfl | rfl
            · exact fun e => hlpz j (.inr e) hu
            · exact fun e => hlpz j (.inl e) hu))
          have HC := hide (unhide (hEPz y _ K))
          clear K
          go_simp
          refine ⟨trivial, ((callsIn_wide.2 (unhide HC)).inRound _).mono ?_⟩
          rintro r y2 ⟨rfl, hyy⟩
          obtain rfl : y = y2 := hyy.symm
          first | exact ⟨_, rfl, Far.refl _ _, rfl⟩ | exact ⟨rfl, Far.refl _ _⟩ | exact Far.refl _ _
        iterate 5
          · go_simp
            first | exact ⟨_, rfl, Far.refl _ _, rfl⟩ | exact ⟨rfl, Far.refl _ _⟩ | exact Far.refl _ _
        · go_simp
          refine ⟨trivial, ((callsIn_wide.2 (unhide (HFB y))).inRound _).mono ?_⟩
          rintro r y2 ⟨v, rfl, ho, hb⟩
          exact ⟨_, rfl, far_below hb, ownsRow_monoB ho (by omega)⟩
        · obtain ⟨ad2, cap2, e2, _⟩ := (own_rowO hf).shape
          have HO := hide hf
          clear hf
          rw [e2] at HO
          go_simp
          exact ⟨_, rfl, far_below ((Below.refl _ _).alloc (Nat.le_refl _) _), _, _, rfl, hzz, heap_alloc_new y _, Owns.alloc (unhide HO) _⟩
        · obtain ⟨hf36, gg, vb, hf45, hg1, hg2, hg3⟩ := hf
          obtain ⟨ad2, cap2, e2, _⟩ := (own_rowO hg3).shape
          have hrow : y.ownsRow (g0 + 8) 44 1 (.slice lad fs.length lcap) fs.length fs := ownsRow_keep (unhide HZ).2.2.1.row (fun j hj => (unhide HBZ).rest j (hlvb j hj).2 (by
            rintro ⟨q, hq, g1, g2, g3⟩
            simp at hq
            rcases hq with rfl | rfl
            · exact g1 rfl
            · have : j = g0 + 2 := g3
              have := (hlvb j hj).1
              omega))
          refine stepIn_app_own rfl (.tmp 36) (.tmp 45) 38 rfl (g0 + 8) 44 (.slice none 0 0) 1 24 Tryz.underlying38 (by kernel_rfl) rfl (by decide) (.slice lad fs.length lcap) fs.length fs hrow (by simp [Act.eval, hf36]) ⟨gg, 0, none⟩ 1 1 [vb] (by simp [Act.eval, hf45]) rfl ?_ (by intro u hu; simp at hu; subst hu; rw [e2]; rfl) (by unfold maxLen; omega) (by omega) (by omega) ?_
          · intro j u hj
            rw [add_mk, blk_cell hg2, Nat.zero_add]
            simpa using hj
          · intro v' w' q1 q2 q3
            exact ⟨v', rfl, footOf_of (.head _) (far_grown q2), vb, q1, ownsRow_keep hg3 (fun j hj => q2.block j (World.ownsRow.lt hg3 j hj).2 (fun e => by have := (hlvb j e.symm).2; have := (World.ownsRow.lt hg3 j hj).1; omega)), fun j hj => by
              have hj : v'.ownBlock = some j := hj
              rcases q3 with e | e
              · exact .inl (by rw [← e]; exact hj)
              · rw [e] at hj
                injection hj with hj
                exact .inr (by omega)⟩
        · have hFz : Far (fun j => (Value.slice lad fs.length lcap).ownBlock = some j) z y := (unhide HBZ).mono (by
            rintro j _ ⟨q, hq, g1, g2, g3⟩
            simp at hq
            rcases hq with rfl | rfl
            · exact g3
            · exact absurd rfl g1)
          have hb2 := hFz.blk (unhide HH1) (fun e => by have := (hlvb _ e).1; omega)
          have z2 := blk_cell (i := 0) hb2
          have z2f := blk_free (i := 0) hb2
          simp at z2
          obtain ⟨_, vb, hr, hv, hl⟩ := hf
          obtain ⟨ad3, cap3, e3, _⟩ := (own_rowO hr).shape
          rw [e3] at hr hl
          have HR := hide (And.intro hr (And.intro hv hl))
          have HFz := hide hFz
          clear hr hv hl hFz hb2
          go_simp
          obtain ⟨hr, hv, hl⟩ := unhide HR
          obtain ⟨hI, m1, m2, m3, m4, m5, m6, m7, m8, m9, m10⟩ := unhide HZ
          refine ⟨footOf_of (.tail _ (.head _)) (far_set y (g0 + 2) 0 _), ?_⟩
          rw [unhide HFR]
          exact sendI_app hI m1 m2 m3 m4 m5 m6 m7 m8 m9 m10 (unhide HFz) (by simpa using hv) hr hl
      · intro f3 y hF hwd
        have hI2 := hwd.2.2.2.2.2.2.2.2.2.2.2.1
        have hF2 := hF.mono (E' := fun j => g0 + 8 ≤ j ∨ j = g0 + 2) (fun j _ h => by
          obtain ⟨q, hq, h⟩ := h
          simp at hq
          rcases hq with rfl | rfl
          · exact .inl (hlvb j h).1
          · exact .inr h)
        have h6 := hF2.rest (g0 + 6) (by omega) (by omega)
        have h7 := hF2.rest (g0 + 7) (by omega) (by omega)
        have HE := hide (And.intro h6 (And.intro h7 hI2))
        clear hwd hF hF2 h6 h7 hI2
        simp only [mergeT]
        gi_wp2
        obtain ⟨h6, h7, hI2⟩ := unhide HE
        exact ⟨h6.trans (unhide HQ).1, h7.trans (unhide HQ).2, hI2⟩
  · intro k W h
    have := h.sz
    omega
  · intro W h hK
    rw [hD] at hK ⊢
    rw [hlen, ← sentFr_four rfl, ← sentAg_four rfl] at h
    obtain ⟨lv, fs, c', sh2, m1, m2, m3, m4, m5, m6, m7, m8, _, _⟩ := h.mid
    have c5 := blk_cell (i := 0) m1
    simp at c5
    have hlo := h.lo
    have hzW := h.sz
    have HE := hide (And.intro m2 (And.intro m3 (And.intro m4 (And.intro m5 (And.intro m6 (And.intro m7 m8))))))
    clear h m1 m2 m3 m4 m5 m6 m7 m8
    go_wp2
    have hput : Far (fun k => k = g0 + 6) W (W.putObj (g0 + 6) (.deferred none)) := ⟨rfl, rfl, rfl, by rw [World.putObj_size]; exact Nat.le_refl _, fun k _ h => World.putObj_heap_other h⟩
    refine ⟨by simp, .inl ⟨_, _, rfl, run_takeDeferred hK, ?_⟩⟩
    obtain ⟨m2, m3, m4, m5, m6, m7, m8⟩ := unhide HE
    have hgw := unhide HG0
    have hno : ∀ j, PaU p c' j → ¬ j = g0 + 6 := fun j hj e => by
      rcases m6 j hj with h1 | h1
      · have := hlo j h1; omega
      · omega
    rw [unhide HTK] at m2 m4
    refine ⟨_, results_tmp rfl _ _ _, _, fs, c', sh2, rfl, ?_, m3.far hput hno, m4, m5.trans hput (fun k hk e => by omega), fun j hj => (m6 j hj).imp id (fun h => by omega), m7, m8⟩
    have := m2.keep (x := W.putObj (g0 + 6) (.deferred none)) (fun k hk => hput.rest k (m2.lt k hk).2 (by have := (m2.lt k hk).1; omega))
    exact ⟨this.len, ownsRow_monoB this.row (by omega), fun j v hj => ownsRow_monoB (this.each j v hj) (by omega), this.apart, this.clear⟩
end
end Go.Proofs.YtamafdcnbcoegaaGreat
namespace Go.Proofs.YtamafdcnbcoegaaGreat
open Go.RowKit

theorem FramesOut.up {B B' : Nat} {z : World} {lv : Value} {fs : List Value} {Fl : List ByteArray} {U : Nat → Prop} (h : FramesOut B z lv fs Fl (fun _ => False)) (hB : B' ≤ B) (hU : ∀ k, U k → k < B) : FramesOut B' z lv fs Fl U := by
  refine ⟨h.len, ownsRow_monoB h.row hB, fun j v hj => ownsRow_monoB (h.each j v hj) hB, h.apart, fun k hk hu => ?_⟩
  have := hU k hu
  rcases hk with hk | hk
  · have := (World.ownsRow.lt h.row k hk).1
    omega
  · obtain ⟨j, hj, u, hu2, hk⟩ := hk
    have := (World.ownsRow.lt (h.each j u hu2) k hk).1
    omega
end Go.Proofs.YtamafdcnbcoegaaGreat
namespace Go.Proofs.YtamafdcnbcoegaaGreat
open Go.RowKit
def tickFr (a : Mod.Ag) (t s : Nat) : List ByteArray := (Mod.sendOut a.epoch t a.fl s).map fun l => ⟨l.toArray⟩
theorem tickFr_succ (a : Mod.Ag) (t s : Nat) : tickFr a t (s + 1) = tickFr a t s ++ sentFr (tickAg a t s) s t 4 := by
  unfold tickFr sentFr
  rw [tickAg_fl]
  show (Mod.sendOut a.epoch t a.fl s ++ (Mod.sendTo a.epoch s (a.fl s) t 4).2).map _ = _
  rw [List.map_append]
  rfl
theorem get_app {α : Type} {l r : List α} {j : Nat} {u : α} (h : (l ++ r)[j]? = some u) : (l[j]? = some u ∧ j < l.length) ∨ (r[j - l.length]? = some u ∧ l.length ≤ j) := by
  by_cases hj : j < l.length
  · rw [List.getElem?_append_left hj] at h; exact .inl ⟨h, hj⟩
  · rw [List.getElem?_append_right (by omega)] at h; exact .inr ⟨h, by omega⟩
theorem framesOut_app {B : Nat} {x y z : World} {lv lv2 lv' : Value} {fs fs2 : List Value} {F F2 : List ByteArray} {U U' : Nat → Prop}
    (h1 : FramesOut B x lv fs F U) (h2 : FramesOut x.heap.size y lv2 fs2 F2 U') (hF : Far U x y) (hN : ∀ k, U' k → U k ∨ x.heap.size ≤ k) (hUl : ∀ k, U' k → k < y.heap.size) (hB : B ≤ x.heap.size)
    (hr : z.ownsRow B 44 1 lv' (fs.length + fs2.length) (fs ++ fs2)) (hg : y.grownBy z lv.ownBlock) (hl : lv'.ownBlock = lv.ownBlock ∨ lv'.ownBlock = some y.heap.size) : FramesOut B z lv' (fs ++ fs2) (F ++ F2) U' := by
  have hlen1 := h1.len
  have hlen2 := h2.len
  have hxy := hF.size
  have hlvb : ∀ k, lv.ownBlock = some k → B ≤ k ∧ k < x.heap.size := fun k hk => h1.lt k (.inl hk)
  have old : ∀ (j : Nat) (u : Value), fs[j]? = some u → ∀ k, u.ownBlock = some k → B ≤ k ∧ k < x.heap.size ∧ ¬ U k ∧ lv.ownBlock ≠ some k := fun j u hj k hk => by
    have hd : Done fs fs.length k := ⟨j, (List.getElem?_eq_some_iff.1 hj).1, u, hj, hk⟩
    have h3 := h1.lt k (.inr hd)
    exact ⟨h3.1, h3.2, h1.clear k (.inr hd), own_ty (own0 (h1.each j u hj)) (own0 h1.row) (by decide) hk⟩
  have new : ∀ (j : Nat) (u : Value), fs2[j]? = some u → ∀ k, u.ownBlock = some k → x.heap.size ≤ k ∧ k < y.heap.size ∧ ¬ U' k := fun j u hj k hk => by
    have hd : Done fs2 fs2.length k := ⟨j, (List.getElem?_eq_some_iff.1 hj).1, u, hj, hk⟩
    have h3 := h2.lt k (.inr hd)
    exact ⟨h3.1, h3.2, h2.clear k (.inr hd)⟩
  refine ⟨by simp [hlen1, hlen2], by simpa using hr, fun j u hj => ?_, fun j1 j2 u1 u2 hj1 hj2 hjn k hk1 hk2 => ?_, fun k hk hu => ?_⟩
  · rcases get_app hj with ⟨hj, hjl⟩ | ⟨hj, hjl⟩
    · have e : ((F ++ F2).map fun b => b.data.toList).getD j [] = (F.map fun b => b.data.toList).getD j [] := by
        rw [List.getD_eq_getElem?_getD, List.getD_eq_getElem?_getD, List.map_append, List.getElem?_append_left (by simp; omega)]
      rw [e]
      exact ownsRow_keep (h1.each j u hj) (fun k hk => by
        obtain ⟨q1, q2, q3, q4⟩ := old j u hj k hk
        exact (hg.block k (by omega) (fun e => q4 e.symm)).trans (hF.rest k q2 q3))
    · have e : ((F ++ F2).map fun b => b.data.toList).getD j [] = (F2.map fun b => b.data.toList).getD (j - fs.length) [] := by
        rw [List.getD_eq_getElem?_getD, List.getD_eq_getElem?_getD, List.map_append, List.getElem?_append_right (by simp; omega)]
        simp [hlen1]
      rw [e]
      refine ownsRow_monoB (ownsRow_keep (h2.each _ u hj) (fun k hk => ?_)) hB
      obtain ⟨q1, q2, q3⟩ := new _ u hj k hk
      exact hg.block k q2 (fun e => by have := (hlvb k e.symm).2; omega)
  · rcases get_app hj1 with ⟨a1, b1⟩ | ⟨a1, b1⟩ <;> rcases get_app hj2 with ⟨a2, b2⟩ | ⟨a2, b2⟩
    · exact h1.apart j1 j2 u1 u2 a1 a2 hjn k hk1 hk2
    · have := old j1 u1 a1 k hk1; have := new _ u2 a2 k hk2; omega
    · have := old j2 u2 a2 k hk2; have := new _ u1 a1 k hk1; omega
    · exact h2.apart _ _ u1 u2 a1 a2 (by omega) k hk1 hk2
  · rcases hk with hk | ⟨j, hj, u, hju, hk⟩
    · rcases hl with e | e
      · rw [e] at hk
        have h3 := hlvb k hk
        rcases hN k hu with h4 | h4
        · exact h1.clear k (.inl hk) h4
        · omega
      · rw [e] at hk
        injection hk with hk
        have := hUl k hu
        omega
    · rcases get_app hju with ⟨a1, b1⟩ | ⟨a1, b1⟩
      · obtain ⟨q1, q2, q3, q4⟩ := old j u a1 k hk
        rcases hN k hu with h4 | h4
        · exact q3 h4
        · omega
      · exact (new _ u a1 k hk).2.2 hu
end Go.Proofs.YtamafdcnbcoegaaGreat
namespace Go.Proofs.YtamafdcnbcoegaaGreat
open Go.RowKit
/-- append(s, x...) of lists of one's own. -/
theorem wpList_cat_own {ops : Array Oper} {rest : List Oper} {o : Oper} {a : Act} {Q : Exit → Act → World → Prop} {w : World} (hgd : o.guard = none) (s x : Operand) (t : TypeId) (ho : o.op = .call { callee := .builtin .append, args := #[s, x], argTypes := #[t, t] })
    (base : Nat) (e : TypeId) (z : Value) (size bytes : Nat) (ht : Tryz.prog.underlying t = some (.slice e)) (hinfo : (Tryz.prog.info? e).map (fun i => (i.zero, i.size, i.bytes)) = some (some z, size, bytes)) (hzs : z.cells.size = size) (hsz : 0 < size)
    (v : Value) (n : Nat) (xs : List Value) (hown : w.ownsRow base e size v n xs) (hs : a.eval s = v) (base2 : Nat) (v2 : Value) (m : Nat) (news : List Value) (hown2 : w.ownsRow base2 e size v2 m news) (hx : a.eval x = v2)
    (h1 : ∀ u ∈ news, u.oneCell' = true) (h63 : n + m ≤ maxLen) (hb : (n + m) * bytes ≤ 140737488355328) (hbase : base ≤ w.heap.size)
    (h : ∀ v' w', w'.ownsRow base e size v' (n + m) (xs ++ news) → w.grownBy w' v.ownBlock → (v'.ownBlock = v.ownBlock ∨ v'.ownBlock = some w.heap.size) → wpList Tryz.prog ops Q rest (a.put o.dst v') w') : wpList Tryz.prog ops Q (o :: rest) a w := by
  obtain ⟨i0, hi, hz0, hz1, hz2⟩ := info_parts2 hinfo
  rcases hown2.2 with ⟨rfl, rfl⟩ | ⟨g, cap, cur, rfl, hg1, hg2, hg3, hg4, hg5, hg6⟩
  · have hn : news = [] := by have := hown2.1; simpa using this
    subst hn
    refine wpList_plain hgd fun K hK => ?_
    have hrun : (Builtin.append_ #[t, t] o.type #[v, .slice none 0 0]).run Tryz.prog w = .ok v w := by
      rcases hown.2 with ⟨rfl, rfl⟩ | ⟨g, cap, cur, rfl, _, _, hnc, _⟩
      · simp [Builtin.append_, run_underlying ht, sizeOf, typeInfo, hi, Builtin.lenOf, Builtin.firstCells]
      · simp [Builtin.append_, run_underlying ht, sizeOf, typeInfo, hi, Builtin.lenOf, Builtin.firstCells, hnc, storeCells]
    unfold Oper.wp
    simp [execOp, ho, resolve, invoke, builtin, hs, hx, hrun, Result.andThen]
    exact hK _ _ (h v w (by simpa using hown) (World.grownBy.refl _ _) (.inl rfl))
  · refine wpList_append_own_at w hgd s x t ho base e i0 z size bytes ht hi hz0 hz1 hz2 hzs hsz v n xs hs hown ⟨g, 0, none⟩ m cap news hx hown2.1 ?_ h1 h63 hb hbase (fun v' w' q1 q2 _ q4 => h v' w' q1 q2 q4)
    intro j u hj
    have hjl : j < m * size := by
      rw [← hown2.1]
      exact (List.getElem?_eq_some_iff.1 hj).1
    have := World.ownsRow.cellAt hown2 j hjl
    rw [hj] at this
    rw [add_mk, Nat.zero_add]
    exact this
theorem sentFr_cnt (a : Mod.Ag) (i t : Nat) : (sentFr a i t 4).length ≤ 4 := by
  unfold sentFr
  rw [List.length_map]
  exact sendTo_cnt _ _ _ _ _
theorem tickFr_cnt (a : Mod.Ag) (t : Nat) : ∀ j, (tickFr a t j).length ≤ 4 * j
  | 0 => Nat.le_refl _
  | j + 1 => by
    have ih := tickFr_cnt a t j
    have h := sentFr_cnt (tickAg a t j) j t
    rw [tickFr_succ, List.length_append]
    omega
theorem FramesOut.one {B : Nat} {w : World} {lv : Value} {fs : List Value} {Fl : List ByteArray} {U : Nat → Prop} (h : FramesOut B w lv fs Fl U) : ∀ u ∈ fs, u.oneCell' = true := by
  intro u hu
  obtain ⟨j, hj, rfl⟩ := List.getElem_of_mem hu
  obtain ⟨ad, cap, e, _⟩ := (own_rowO (h.each j _ (List.getElem?_eq_getElem hj))).shape
  rw [e]
  rfl
/-- Frames that came out, and the agent behind it. -/
def AgOut (w z : World) (p : Nat) (a' : Mod.Ag) (c : Av) (lv : Value) (fs : List Value) (F : List ByteArray) : Prop :=
  ∃ c', FramesOut w.heap.size z lv fs F (PaU p c') ∧ (∃ g free sh pl st, PaAt z p g a'.ticks a'.welcome a'.fenced free sh st c' ∧ Sound st ∧ OnAg a' st.opening g free sh pl) ∧ Far (PaU p c) w z ∧ (∀ k, PaU p c' k → PaU p c k ∨ w.heap.size ≤ k) ∧ c'.s = c.s ∧ c'.rv = c.rv
section
variable {w : World} {p : Nat} {g : Nat → Nat} {free : List Nat} {sh : Nat → List (Nat × Value)} {st : Mod.Stv} {c : Av} {a : Mod.Ag} {pl : Nat → List Nat}
set_option maxRecDepth 100000 in
set_option maxHeartbeats 8000000 in
theorem agTick_send (H : PaAt w p g a.ticks a.welcome a.fenced free sh st c) (hs : Sound st) (O : OnAg a st.opening g free sh pl) (htk : a.ticks ≤ 1000000000) (hbnd : ∀ i, i < 3 → (a.fl i).base + (a.fl i).kept.length < 4294967296) (hbod : ∀ i, i < 3 → ∀ x ∈ (a.fl i).kept, x.1.size ≤ 20 ∧ x.2 ≤ 1000000000000) (hf : a.fenced = false) (hw : a.welcome = true) :
    Calls Tryz.prog 53 #[ptrTo p] w fun r z => ∃ lv fs, r = .returned lv ∧ AgOut w z p a.tick.1 c lv fs (a.tick.2.map fun l => ⟨l.toArray⟩) := by
  have c23 : w.cell? ⟨p, 23, none⟩ = some (.int .i64 a.ticks) := by rw [blk_cell H.ks.blk, H.ks.at']
  have f23 : w.frozen? ⟨p, 23, none⟩ = false := blk_free (i := 23) H.ks.blk
  obtain ⟨t2, ht2⟩ : ∃ t2, t2 = a.ticks + 1 := ⟨_, rfl⟩
  rw [tick_send hf hw, ← ht2]
  have HT := hide ht2
  have HSD := fun (wr : World) (c2 : Av) (sh2 : Nat → List (Nat × Value)) (j : Nat) (hj : j < 3) (K : PaAt wr p g (tickAg a t2 j).ticks (tickAg a t2 j).welcome (tickAg a t2 j).fenced free sh2 st c2) (O2 : OnAg (tickAg a t2 j) st.opening g free sh2 pl) =>
    agSend_any K O2 j hj (by show t2 ≠ 0; omega) (by show t2 ≤ _; omega) (by rw [tickAg_fl]; exact hbnd j hj) (by rw [tickAg_fl]; exact hbod j hj)
  have HSEND := hide HSD
  have HH := hide (And.intro H (And.intro hs O))
  have hsd := hs.1
  clear H O hs ht2 HSD hbnd hbod
  unfold ptrTo at *
  go_enter Tryz.func53, Tryz.ntmps53
  go_upto_region 2 with fail
  refine wp_world (fun x => PaStep w x p g t2 a.welcome a.fenced free sh st c) ?_ ?_
  · rw [show ((a.ticks : Int) + 1) = ((t2 : Nat) : Int) by have := unhide HT; omega]
    exact paStep_tick (unhide HH).1 t2
  clear c23 f23
  rintro x hst
  obtain ⟨c1, K1, F1, N1, s1, s2⟩ := hst
  have d25 : x.cell? ⟨p, 25, none⟩ = some (.bool false) := by rw [blk_cell K1.ks.blk, K1.ks.ae, hf]
  have d24 : x.cell? ⟨p, 24, none⟩ = some (.bool true) := by rw [blk_cell K1.ks.blk, K1.ks.aw, hw]
  have d0 : x.cell? ⟨p, 0, none⟩ = some (.pointer (some ⟨c1.s, 0, none⟩)) := by rw [blk_cell K1.ks.blk, K1.ks.a0]; rfl
  have hID := storeIsDead_any K1.stt
  rw [hsd] at hID
  have HID := hide hID
  have HS := hide (⟨c1, K1, F1, N1, s1, s2⟩ : PaStep w x p g t2 a.welcome a.fenced free sh st c)
  clear K1 F1 N1 s1 s2 hID
  unfold ptrTo at *
  go_wp2_with (go_at_call 86; refine (unhide HID).mono ?_; rintro r y ⟨rfl, hyw⟩; obtain rfl : x = y := hyw.symm)
  go_loopw [3, 4, 33] (fun v _ i wr => ∃ j : Nat, j ≤ 3 ∧ i = .int .i64 j ∧ ∃ fs c2 sh2, FramesOut w.heap.size wr v fs (tickFr a t2 j) (PaU p c2) ∧ PaAt wr p g (tickAg a t2 j).ticks (tickAg a t2 j).welcome (tickAg a t2 j).fenced free sh2 st c2 ∧ OnAg (tickAg a t2 j) st.opening g free sh2 pl ∧ Far (PaU p c) w wr ∧ (∀ k, PaU p c2 k → PaU p c k ∨ w.heap.size ≤ k) ∧ c2.s = c.s ∧ c2.rv = c.rv) (fun _ _ i _ => 3 - (intOf i).toNat)
  case atStart =>
    obtain ⟨c2, K2, F2, N2, s1, s2⟩ := unhide HS
    refine ⟨0, by omega, rfl, [], c2, sh, ⟨rfl, World.ownsRow_nil _ _ _ _, (fun j v hj => by simp at hj), (fun i j u v hi => by simp at hi), fun k hk => ?_⟩, K2, ?_, F2, N2, s1, s2⟩
    · rcases hk with h | ⟨j, hj, _⟩
      · cases h
      · simp at hj
    · rw [tickAg_zero]
      exact (unhide HH).2.2.flags t2 a.welcome a.fenced
  case round =>
    obtain ⟨j, hj, rfl, fs, c2, sh2, m1, m2, m3, m4, m5, m6, m7⟩ := hrel
    clear HS HID d0 d24 d25
    by_cases hlt : j < 3
    · have HSJ := hide ((unhide HSEND) wr c2 sh2 j hlt m2 m3)
      have hj0 : (0 : Int) ≤ (j : Int) := by omega
      have hj3 : (j : Int) < 3 := by omega
      have hcnt := tickFr_cnt a t2 j
      have hsc := sentFr_cnt (tickAg a t2 j) j (tickAg a t2 j).ticks
      obtain ⟨n1, hn1⟩ : ∃ n, n = fs.length := ⟨_, rfl⟩
      have hl1 : n1 ≤ 8 := by have := m1.len; omega
      have HN1 := hide hn1
      have hzw := m4.size
      have hrow1 := m1.row
      rw [← hn1] at hrow1
      obtain ⟨ad, cap, rfl, _⟩ := (own_rowO hrow1).shape
      have HR1 := hide hrow1
      clear hrow1 hn1 hcnt
      have HM := hide (And.intro m1 (And.intro m2 (And.intro m4 (And.intro m5 (And.intro m6 m7)))))
      clear m1 m2 m3 m4 m5 m6 m7
      unfold ptrTo at HSJ
      go_upto_region 10 with fail
      go_upto_region 11 with (first
        | (go_at_call 93; (refine (unhide HSJ).mono ?_; rintro r y ⟨lv2, fs2, c3, sh3, rfl, k1, k2, k3, k4, k5, k6, k7⟩; obtain ⟨n2, hn2⟩ : ∃ n, n = fs2.length := ⟨_, rfl⟩; have hl2 : n2 ≤ 4 := (by have := k1.len; omega); have hrow2 := k1.row; rw [← hn2] at hrow2; have HN2 := hide hn2; have hyz := k4.size; obtain ⟨ad2, cap2, e2, _⟩ := (own_rowO hrow2).shape; subst e2; have HR2 := hide hrow2; clear hrow2 hn2; have HK := hide (And.intro k1 (And.intro k2 (And.intro k3 (And.intro k4 (And.intro k5 (And.intro k6 k7)))))); clear k1 k2 k3 k4 k5 k6 k7))
        | (at_builtin; (refine wpList_cat_own rfl (.tmp 36) (.tmp 39) 38 rfl w.heap.size 44 (.slice none 0 0) 1 24 Tryz.underlying38 (by kernel_rfl) rfl (by decide) (.slice ad n1 cap) n1 fs (ownsRow_keep (unhide HR1) (fun k hk => (unhide HK).2.2.2.1.rest k ((unhide HM).1.lt k (.inl hk)).2 ((unhide HM).1.clear k (.inl hk)))) rfl wr.heap.size (.slice ad2 n2 cap2) n2 fs2 (unhide HR2) rfl (unhide HK).1.one (by unfold maxLen; omega) (by omega) (by omega) ?_; intro v' w1 hown' hgrow hat; obtain ⟨ad3, cap3, e3, _⟩ := (own_rowO hown').shape; subst e3; have HV := hide (And.intro hown' (And.intro hgrow hat)); clear hown' hgrow hat)))
      go_wp2
      go_roundw
      case rel =>
        obtain ⟨m1, m2, m4, m5, m6, m7⟩ := unhide HM
        obtain ⟨k1, k2, k3, k4, k5, k6, k7⟩ := unhide HK
        obtain ⟨q1, q2, q3⟩ := unhide HV
        have hF := framesOut_app (lv := .slice ad n1 cap) m1 k1 k4 k5 k2.lt m4.size (by rw [← unhide HN1, ← unhide HN2]; exact q1) q2 q3
        have hno : ∀ k, PaU p c3 k → ¬ (Value.slice ad n1 cap).ownBlock = some k := fun k hu e => by
          have h1 := m1.lt k (.inl e)
          rcases k5 k hu with h2 | h2
          · exact m1.clear k (.inl e) h2
          · omega
        have FG := far_grown q2
        refine ⟨j + 1, by omega, by go_num, fs ++ fs2, c3, sh3, ?_, k2.far FG (fun k hu e => hno k hu (by simpa using e)), ?_, (m4.trans k4 (fun k hk hu => ?_)).trans FG (fun k hk e => ?_), fun k hu => ?_, k6.trans m6, k7.trans m7⟩
        · rw [tickFr_succ]
          exact hF
        · have := k3
          rw [show (tickAg a t2 j).ticks = t2 from rfl, tickAg_succ] at this
          exact this
        · rcases m5 k hu with h | h
          · exact h
          · omega
        · have := (m1.lt k (.inl (by simpa using e))).1
          omega
        · rcases k5 k hu with h | h
          · exact m5 k h
          · exact .inr (by omega)
      case measure => simp [intOf]; omega
    · have hj3 : j = 3 := by omega
      subst hj3
      have HM := hide (And.intro m1 (And.intro m2 (And.intro m3 (And.intro m4 (And.intro m5 (And.intro m6 m7))))))
      obtain ⟨ad, cap, rfl, _⟩ := (own_rowO m1.row).shape
      clear m1 m2 m3 m4 m5 m6 m7
      go_wp2
      go_ret
      obtain ⟨m1, m2, m3, m4, m5, m6, m7⟩ := unhide HM
      exact ⟨_, fs, rfl, c2, m1, ⟨g, free, sh2, pl, st, m2, (unhide HH).2.1, m3⟩, m4, m5, m6, m7⟩
end
end Go.Proofs.YtamafdcnbcoegaaGreat
namespace Go.Proofs.YtamafdcnbcoegaaGreat
open Go.RowKit

/-- In the midst of a step on an agent: the program's stands for ap, the document's for ar; the step's box. -/
structure AM {top : Nat} (C : AgentC top) (w x : World) (q sv rp : Nat) (ar ap : Mod.Ag) (r : RRest) (kv kvc hk hkc : Nat → Value) (U U' : Nat → Prop) (left : Int) (f : Nat) (i : Int) (s : ByteArray) : Prop where
  far : Far (AgPairU q rp kv hk U) w x
  blk : x.heap[q]? = some (.cells #[ptrTo sv, ptrTo rp, .bool false, .int .i64 left] 128 (0, 0))
  prog : C.At x sv ap U'
  ref : RefAt x rp ar r kvc hkc
  newU : ∀ k, U' k → U k ∨ w.heap.size ≤ k
  newR : ∀ k, RefU rp kvc hkc k → RefU rp kv hk k ∨ w.heap.size ≤ k
  qU : ¬ U' q
  qR : ¬ RefU rp kvc hkc q
  UR : ∀ k, U' k → ¬ RefU rp kvc hkc k
  b2 : x.cell? ⟨f, 2, none⟩ = some (.int .i64 i)
  b3 : x.cell? ⟨f, 3, none⟩ = some (.string s)
  fl : f < x.heap.size
  fw : ¬ AgPairU q rp kvc hkc U' f
section
variable {top N : Nat} {C : AgentC top} {w x y : World} {q sv rp f : Nat} {a ar ap : Mod.Ag} {r : RRest} {kv kvc hk hkc : Nat → Value} {U U' : Nat → Prop} {left : Int} {i : Int} {s : ByteArray}
theorem AM.start (P : AgPairAt C N w q sv rp a r kv hk U left) (hb : Below w.heap.size w x) (hf : w.heap.size ≤ f) (hfl : f < x.heap.size) (h2 : x.cell? ⟨f, 2, none⟩ = some (.int .i64 i)) (h3 : x.cell? ⟨f, 3, none⟩ = some (.string s))
    (hA : C.At y sv ap U') (hF : Far U x y) (hN : ∀ k, U' k → U k ∨ x.heap.size ≤ k) : AM C w y q sv rp a ap r kv kv hk hk U U' left f i s := by
  have P1 := P.far (far_below (E := fun _ => False) hb) (fun _ _ h => h)
  have hpl := P.lt
  have hsz := hb.size
  have hUf : ¬ U f := fun h => by have := hpl f (.inr (.inr h)); omega
  have hfk := hF.rest f hfl hUf
  refine ⟨(far_below (E := AgPairU q rp kv hk U) hb).trans hF (fun k _ h => .inr (.inr h)), hF.blk P1.blk P1.qU, hA, P1.ref.far hF (fun k hk hu => P1.UR k hu hk), fun k h => (hN k h).imp id (by omega), fun k h => .inl h, ?_, P.qR, ?_, (World.cell?_of_block hfk).trans h2, (World.cell?_of_block hfk).trans h3, Nat.lt_of_lt_of_le hfl hF.size, ?_⟩
  · intro h
    rcases hN q h with h | h
    · exact P.qU h
    · have := hpl q (.inl rfl); omega
  · intro k h hr
    rcases hN k h with h | h
    · exact P.UR k h hr
    · have := hpl k (.inr (.inl hr)); omega
  · rintro (e | e | e)
    · have := hpl f (.inl e); omega
    · have := hpl f (.inr (.inl e)); omega
    · rcases hN f e with h | h
      · exact hUf h
      · omega
theorem AM.below (T : AM C w x q sv rp ar ap r kv kvc hk hkc U U' left f i s) (hb : Below x.heap.size x y) : AM C w y q sv rp ar ap r kv kvc hk hkc U U' left f i s := by
  have F : Far (fun _ => False) x y := far_below hb
  exact ⟨T.far.trans F (fun _ _ h => h.elim), F.blk T.blk (fun h => h), C.far T.prog F (fun _ _ h => h), T.ref.far F (fun _ _ h => h), T.newU, T.newR, T.qU, T.qR, T.UR, (hb.cell (p := ⟨f, 2, none⟩) T.fl).trans T.b2, (hb.cell (p := ⟨f, 3, none⟩) T.fl).trans T.b3, Nat.lt_of_lt_of_le T.fl hb.size, T.fw⟩
theorem AM.wrote (T : AM C w x q sv rp ar ap r kv kvc hk hkc U U' left f i s) (left' : Int) : AM C w (x.setCell ⟨q, 3, none⟩ (.int .i64 left')) q sv rp ar ap r kv kvc hk hkc U U' left' f i s := by
  have F := far_set x q 3 (.int .i64 left')
  have hfq := F.rest f T.fl (fun e => T.fw (.inl e))
  refine ⟨T.far.trans F (fun k _ e => .inl e), ?_, C.far T.prog F (fun k h e => T.qU (e ▸ h)), T.ref.far F (fun k h e => T.qR (e ▸ h)), T.newU, T.newR, T.qU, T.qR, T.UR, (World.cell?_of_block hfq).trans T.b2, (World.cell?_of_block hfq).trans T.b3, Nat.lt_of_lt_of_le T.fl F.size, T.fw⟩
  have := blk_set (j := 3) (v := .int .i64 left') T.blk
  simpa using this
theorem AM.stepAt {ar' : Mod.Ag} {kvd hkd : Nat → Value} (T : AM C w x q sv rp ar ap r kv kvc hk hkc U U' left f i s) (R' : RefAt y rp ar' r kvd hkd) (F : Far (RefU rp kvc hkc) x y) (hN : ∀ k, RefU rp kvd hkd k → RefU rp kvc hkc k ∨ x.heap.size ≤ k) : AM C w y q sv rp ar' ap r kv kvd hk hkd U U' left f i s := by
  have hUl := C.lt T.prog
  have hql := lt_of_block T.blk
  have hfl := T.fl
  have hwx := T.far.size
  have hfk := F.rest f T.fl (fun e => T.fw (.inr (.inl e)))
  refine ⟨T.far.trans F (fun k hk h => (T.newR k h).elim (fun h => .inr (.inl h)) (fun h => by omega)), F.blk T.blk T.qR, C.far T.prog F T.UR, R', T.newU, fun k h => (hN k h).elim (T.newR k) (fun hx => .inr (by omega)), T.qU, fun h => (hN q h).elim T.qR (fun hx => by omega), fun k h hr => (hN k hr).elim (T.UR k h) (fun hx => by have := hUl k h; omega),
    (World.cell?_of_block hfk).trans T.b2, (World.cell?_of_block hfk).trans T.b3, Nat.lt_of_lt_of_le T.fl F.size, ?_⟩
  rintro (e | e | e)
  · exact T.fw (.inl e)
  · exact (hN f e).elim (fun h => T.fw (.inr (.inl h))) (fun hx => by omega)
  · exact T.fw (.inr (.inr e))
theorem AM.step {ar' : Mod.Ag} (T : AM C w x q sv rp ar ap r kv kvc hk hkc U U' left f i s) (hS : RefStep x y rp ar' r kvc hkc) : ∃ kvd hkd, AM C w y q sv rp ar' ap r kv kvd hk hkd U U' left f i s := by
  obtain ⟨kvd, hkd, R', F, hN⟩ := hS
  exact ⟨kvd, hkd, T.stepAt R' F hN⟩
end
/-- What a step on an agent leaves. -/
structure AgDone {top : Nat} (C : AgentC top) (N : Nat) (w y : World) (q sv rp : Nat) (a' : Mod.Ag) (r : RRest) (kv hk : Nat → Value) (U : Nat → Prop) : Prop where
  all : ∃ (kvd hkd : Nat → Value) (U' : Nat → Prop) (left : Int), AgPairAt C N y q sv rp a' r kvd hkd U' left ∧ Far (AgPairU q rp kv hk U) w y ∧ ∀ k, AgPairU q rp kvd hkd U' k → AgPairU q rp kv hk U k ∨ w.heap.size ≤ k
theorem AM.done {top N : Nat} {C : AgentC top} {w x : World} {q sv rp f : Nat} {ap : Mod.Ag} {r : RRest} {kv kvc hk hkc : Nat → Value} {U U' : Nat → Prop} {left : Int} {i : Int} {s : ByteArray} (T : AM C w x q sv rp ap ap r kv kvc hk hkc U U' left f i s) (hd : r.dead = false) (G : AgGood N ap) : AgDone C N w x q sv rp ap r kv hk U :=
  ⟨kvc, hkc, U', left, ⟨T.blk, T.prog, T.ref, hd, G, T.qU, T.qR, T.UR⟩, T.far, fun k h => by
    rcases h with h | h | h
    · exact .inl (.inl h)
    · exact (T.newR k h).imp (fun h => .inr (.inl h)) id
    · exact (T.newU k h).imp (fun h => .inr (.inr h)) id⟩
theorem refuses_not4 (a : Mod.Ag) (i : Int) (n : Nat) : a.refuses i n = 0 ∨ a.refuses i n = 5 ∨ a.refuses i n = 6 ∨ a.refuses i n = 7 := by
  unfold Mod.Ag.refuses
  repeat' split
  all_goals simp
theorem refuses_0 {a : Mod.Ag} {i : Int} {n : Nat} (h : a.refuses i n = 0) : (0 ≤ i ∧ i < 3) ∧ n ≤ 20 ∧ a.room < 24 := by
  unfold Mod.Ag.refuses at h
  split at h
  · simp at h
  · split at h
    · simp at h
    · split at h
      · simp at h
      · omega

set_option maxRecDepth 100000 in
set_option maxHeartbeats 8000000 in
theorem submitted_any {top N : Nat} (C : AgentC top) (w : World) (kd nn i : Int) (s : ByteArray) (kp fk fe fst fq : Int) (fb : ByteArray) (q sv rp : Nat) (a : Mod.Ag) (r : RRest) (kv hk : Nat → Value) (U : Nat → Prop) (left : Int)
    (P : AgPairAt C N w q sv rp a r kv hk U left) (hN : N < top) :
    Calls Tryz.prog 118 #[ptrTo q, opVal kd nn i s kp fk fe fst fq fb] w fun x w' => x = .returned (.bool true) ∧ AgDone C (N + 1) w w' q sv rp (agSubmits a i s) r kv hk U := by
  have HP := hide P
  have hql := lt_of_block P.blk
  have q0 := blk_cell (i := 0) P.blk
  obtain ⟨rv, hrv⟩ : ∃ rv, rv = a.refuses i s.size := ⟨_, rfl⟩
  have HS := fun (x : World) (hb : Below w.heap.size w x) => by
    have := C.submit i s (P.far (far_below (E := fun _ => False) hb) (fun _ _ h => h)).prog P.good hN
    rw [← hrv] at this
    exact hide this
  have HRV := hide hrv
  clear hrv
  have hd := hide P.dead
  clear P
  simp at q0
  unfold ptrTo opVal at *
  go_enter Tryz.func118, Tryz.ntmps118
  go_upto_region 1 with fail
  have HB := hide ((Below.refl w.heap.size w).alloc (Nat.le_refl _) (.cells #[.int .i64 kd, .int .i64 nn, .int .i64 i, .string s, .int .u64 kp, .int .i64 fk, .int .i64 fe, .int .i64 fst, .int .i64 fq, .string fb] 86))
  refine wp_region_cut (by kernel_rfl)
    [fun v _ => v = .pointer (some ⟨q, 0, none⟩), fun v _ => v = .pointer (some ⟨q, 0, none⟩), fun v _ => v = .pointer (some ⟨q, 0, none⟩), fun v _ => v = .pointer (some ⟨sv, 0, none⟩), fun v _ => v = .pointer (some ⟨w.heap.size, 2, none⟩), fun v _ => v = .int .i64 i, fun v _ => v = .pointer (some ⟨w.heap.size, 3, none⟩), fun v _ => v = .string s, fun _ _ => True, fun _ _ => True]
    [[(0, none)], [(8, some 0)], [(9, some 1)], [(10, some 2)], [(3, none)], [(12, some 4)], [(3, none)], [(14, some 6)], [(11, some 3), (13, some 5), (15, some 7)], [(16, some 8)]]
    [some 8, some 9, some 10, some 11, some 12, some 13, some 14, some 15, some 16, some 5]
    [false, false, false, false, false, true, false, false, true, true, true, true, true, true, true, true, true, false, false, false, false, false, false, false, false, false, false, false, false, false, false, false, false, false, false, false, false, false, false, false, false, false, false, false, false, false, false, false, false, false, false, false, false, false, false, false, false, false, false, false, false, false, false, false]
    8 _ rfl (Nat.le_of_ble_eq_true (n := 9) (by kernel_rfl)) (by kernel_rfl) (by kernel_rfl) (by kernel_rfl) (by kernel_rfl) (by kernel_rfl) (by kernel_rfl) ?_ ?_ ?_ ?_
  · repeat' (first | exact stable_eq _ | exact stable_true | exact trivial | apply And.intro)
  · refine ⟨?_, ?_, ?_, ?_, ?_, ?_, ?_, ?_, trivial⟩
    all_goals
      intro b x hb hf
      have hb2 := (unhide HB).trans (hb.mono (by simp))
      have y0 := (hb2.cell (p := ⟨q, 0, none⟩) hql).trans q0
      have b2 := boxed_cells hb 2
      have b3 := boxed_cells hb 3
      clear hb hb2
      simp at b2 b3
      simp only [PlanFacts, List.getD_cons_zero, List.getD_cons_succ, Array.getD_eq_getD_getElem?] at hf
      try simp at hf
      try go_simp
      try exact Below.refl _ _
    all_goals first | exact ⟨rfl, Below.refl _ _⟩ | skip
  · intro f x hwd
    rfl
  · intro f x2 hb hwd
    simp only [AllWords, List.take] at hwd
    obtain ⟨_, _, _, hf11, _, hf13, _, hf15, _⟩ := hwd
    have B2 := hide ((unhide HB).trans (hb.mono (by simp)))
    have b2 := boxed_cells hb 2
    have b3 := boxed_cells hb 3
    have hfl2 := Nat.lt_of_lt_of_le (show w.heap.size < (w.alloc (.cells #[.int .i64 kd, .int .i64 nn, .int .i64 i, .string s, .int .u64 kp, .int .i64 fk, .int .i64 fe, .int .i64 fst, .int .i64 fq, .string fb] 86)).heap.size by simp) hb.size
    simp at b2 b3
    clear hb
    simp only [mergeT, hf11, hf13, hf15]
    go_simp
    refine (unhide (HS x2 (unhide B2))).mono ?_
    rintro r3 x3 ⟨U', rfl, hA, hF, hNew⟩
    have T3 := hide (AM.start (unhide HP) (unhide B2) (Nat.le_refl _) hfl2 b2 b3 hA hF hNew)
    clear hA hF hNew b2 b3 hfl2 HS B2 HB q0 hql
    intro fuel hfu
    obtain ⟨m, rfl⟩ : ∃ m, fuel = m + 1 := ⟨fuel - 1, by omega⟩
    refine wpAny_one (i := 9) (by kernel_rfl) rfl rfl ?_
    go_simp
    refine wpAny_end (by kernel_rfl) ?_
    go_upto_region 2 with fail
    have HR := fun (x : World) (hb : Below x3.heap.size x3 x) => by
      have := refuses_any ((unhide T3).below hb).ref i s (unhide hd)
      rw [← unhide HRV] at this
      exact hide this
    have q1 := blk_cell (i := 1) (unhide T3).blk
    have hql := lt_of_block (unhide T3).blk
    have hfl := (unhide T3).fl
    have b2 := (unhide T3).b2
    have b3 := (unhide T3).b3
    simp [ptrTo] at q1
    refine wp_region_frame (by kernel_rfl)
      [fun v _ => v = .pointer (some ⟨q, 0, none⟩), fun v _ => v = .pointer (some ⟨q, 0, none⟩), fun v _ => v = .pointer (some ⟨q, 1, none⟩), fun v _ => v = .pointer (some ⟨rp, 0, none⟩), fun v _ => v = .pointer (some ⟨w.heap.size, 2, none⟩), fun v _ => v = .int .i64 i, fun v _ => v = .pointer (some ⟨w.heap.size, 3, none⟩), fun v _ => v = .string s, fun v _ => v = .int .i64 rv, fun v _ => v = .int .i64 rv]
      [[(0, none)], [(17, some 0)], [(18, some 1)], [(19, some 2)], [(3, none)], [(21, some 4)], [(3, none)], [(23, some 6)], [(20, some 3), (22, some 5), (24, some 7)], [(25, some 8)]]
      [some 17, some 18, some 19, some 20, some 21, some 22, some 23, some 24, some 25, some 6]
      [false, false, false, false, false, false, true, false, false, false, false, false, false, false, false, false, false, true, true, true, true, true, true, true, true, true, false, false, false, false, false, false, false, false, false, false, false, false, false, false, false, false, false, false, false, false, false, false, false, false, false, false, false, false, false, false, false, false, false, false, false, false, false, false]
      (by kernel_rfl) (by kernel_rfl) (by kernel_rfl) (by kernel_rfl) ?_ ?_ ?_
    · repeat' (first | exact stable_eq _ | exact trivial | apply And.intro)
    · refine ⟨?_, ?_, ?_, ?_, ?_, ?_, ?_, ?_, ?_, ?_, trivial⟩
      all_goals
        intro b x hb hf
        have z0 := (hb.cell (p := ⟨q, 1, none⟩) hql).trans q1
        have z2 := (hb.cell (p := ⟨w.heap.size, 2, none⟩) hfl).trans b2
        have z3 := (hb.cell (p := ⟨w.heap.size, 3, none⟩) hfl).trans b3
        have HRx := HR x hb
        clear hb
        simp only [PlanFacts, List.getD_cons_zero, List.getD_cons_succ, Array.getD_eq_getD_getElem?] at hf
        try simp at hf
        try go_simp
        try exact Below.refl _ _
      all_goals first
        | exact ⟨rfl, Below.refl _ _⟩
        | (refine (unhide HRx).mono ?_; rintro e x' ⟨rfl, k, rfl⟩; exact ⟨rfl, below_drewN (Below.refl _ _) _⟩)
        | skip
    · intro f2 x4 hb4 hwd
      simp only [AllWords] at hwd
      have hf6 := hwd.2.2.2.2.2.2.2.2.2.1
      have T4 := hide ((unhide T3).below hb4)
      clear hwd hb4 T3 HR q1 hql hfl b2 b3
      simp only [mergeT, hf6]
      have hcase := refuses_not4 a i s.size
      rw [← unhide HRV] at hcase
      rcases hcase with rfl | rfl | rfl | rfl
      · have q1 := blk_cell (i := 1) (unhide T4).blk
        have hql := lt_of_block (unhide T4).blk
        have hfl := (unhide T4).fl
        have b2 := (unhide T4).b2
        have b3 := (unhide T4).b3
        simp [ptrTo] at q1
        have hin := hide (refuses_0 (unhide HRV).symm)
        go_upto_region 8 with fail
        refine wp_region_last (by kernel_rfl)
          [fun v _ => v = .pointer (some ⟨q, 0, none⟩), fun v _ => v = .pointer (some ⟨q, 0, none⟩), fun v _ => v = .pointer (some ⟨q, 1, none⟩), fun v _ => v = .pointer (some ⟨rp, 0, none⟩), fun v _ => v = .pointer (some ⟨w.heap.size, 2, none⟩), fun v _ => v = .int .i64 i, fun v _ => v = .pointer (some ⟨w.heap.size, 3, none⟩), fun v _ => v = .string s, fun _ _ => True]
          [[(0, none)], [(51, some 0)], [(52, some 1)], [(53, some 2)], [(3, none)], [(55, some 4)], [(3, none)], [(57, some 6)], [(54, some 3), (56, some 5), (58, some 7)]]
          [some 51, some 52, some 53, some 54, some 55, some 56, some 57, some 58, some 59]
          [false, false, false, false, false, false, false, false, false, false, false, false, false, false, false, false, false, false, false, false, false, false, false, false, false, false, false, false, false, false, false, false, false, false, false, false, false, false, false, false, false, false, false, false, false, false, false, false, false, false, false, true, true, true, true, true, true, true, true, true, false, false, false, false]
          8 _ rfl rfl (by kernel_rfl) (by kernel_rfl) (by kernel_rfl) (by kernel_rfl) (by kernel_rfl) (by kernel_rfl) ?_ ?_ ?_
        · repeat' (first | exact stable_eq _ | exact stable_true | exact trivial | apply And.intro)
        · refine ⟨?_, ?_, ?_, ?_, ?_, ?_, ?_, ?_, trivial⟩
          all_goals
            intro b x hb hf
            have z0 := (hb.cell (p := ⟨q, 1, none⟩) hql).trans q1
            have z2 := (hb.cell (p := ⟨w.heap.size, 2, none⟩) hfl).trans b2
            have z3 := (hb.cell (p := ⟨w.heap.size, 3, none⟩) hfl).trans b3
            clear hb
            simp only [PlanFacts, List.getD_cons_zero, List.getD_cons_succ, Array.getD_eq_getD_getElem?] at hf
            try simp at hf
            try go_simp
            try exact Below.refl _ _
          all_goals first | exact ⟨rfl, Below.refl _ _⟩ | skip
        · intro f8 x8 hb8 hwd
          simp only [AllWords, List.take] at hwd
          obtain ⟨_, _, _, hf54, _, hf56, _, hf58, _⟩ := hwd
          have T8 := hide ((unhide T4).below hb8)
          clear hb8 T4 q1 hql hfl b2 b3
          simp only [mergeT, hf54, hf56, hf58]
          go_simp
          obtain ⟨sn, rfl⟩ := Int.eq_ofNat_of_zero_le (unhide hin).1.1
          have hroom : (a.fl sn).kept.length < 24 := by
            have h := unhide hin
            have h2 := h.2.2
            unfold Mod.Ag.room at h2
            have h3 : sn = 0 ∨ sn = 1 ∨ sn = 2 := by omega
            rcases h3 with rfl | rfl | rfl
            all_goals omega
          refine (refSubmit_any (unhide T8).ref sn (by have := (unhide hin).1.2; omega) s hroom).mono ?_
          rintro r9 x9 ⟨rfl, hst⟩
          obtain ⟨kvd, hkd, T9⟩ := (unhide T8).step hst
          have HT9 := hide T9
          have bq := T9.blk
          clear hst T8 hroom T9
          have hS : agSubmits a (sn : Int) s = a.submit sn s := by unfold agSubmits; rw [← unhide HRV]; rfl
          have HS2 := hide hS
          clear hS
          have hq9 := lt_of_block bq
          go_simp
          go_wp2_with (go_at_call 171; refine (wroteAg_any x9 q sv rp left bq).mono ?_; rintro r10 x10 ⟨rfl, left', rfl⟩)
          go_ret
          refine ⟨rfl, ?_⟩
          have D := ((unhide HT9).wrote left')
          rw [unhide HS2] at D ⊢
          exact D.done (unhide hd) (agGood_submit (unhide HP).good sn s (unhide hin).2.1)
      all_goals
        have hS : agSubmits a i s = a := by unfold agSubmits; rw [← unhide HRV]; rfl
        have D := hide ((show AM C w x4 q sv rp a a r kv kv hk hk U U' left w.heap.size i s from by have := unhide T4; rw [hS] at this; exact this).done (N := N + 1) (unhide hd) ((unhide HP).good.mono (Nat.le_succ _)))
        have HS2 := hide hS
        clear hS T4
        go_wp2
        go_ret
        exact ⟨rfl, by rw [unhide HS2]; exact unhide D⟩
end Go.Proofs.YtamafdcnbcoegaaGreat
namespace Go.Proofs.YtamafdcnbcoegaaGreat
open Go.RowKit

theorem agOut_of {w x z : World} {p : Nat} {a' : Mod.Ag} {c : Av} {lv : Value} {fs : List Value} {F : List ByteArray} (h : AgIs w x p a' c) (hb : Below x.heap.size x z) (hf : FramesOut x.heap.size z lv fs F (fun _ => False)) : AgOut w z p a' c lv fs F := by
  obtain ⟨g, free, sh, pl, st, ⟨c', K, F', N, s1, s2⟩, hs, O⟩ := h
  exact ⟨c', hf.up F'.size K.lt, ⟨g, free, sh, pl, st, K.below hb, hs, O⟩, F'.trans (far_below hb) (fun _ _ h => h), N, s1, s2⟩
section
variable {w : World} {p : Nat} {g : Nat → Nat} {free : List Nat} {sh : Nat → List (Nat × Value)} {st : Mod.Stv} {c : Av} {a : Mod.Ag} {pl : Nat → List Nat}
theorem agTick_any {N : Nat} (H : PaAt w p g a.ticks a.welcome a.fenced free sh st c) (hs : Sound st) (O : OnAg a st.opening g free sh pl) (G : AgGood N a) (hN : N < 1000000000) :
    Calls Tryz.prog 53 #[ptrTo p] w fun r z => ∃ lv fs, r = .returned lv ∧ AgOut w z p a.tick.1 c lv fs (a.tick.2.map fun l => ⟨l.toArray⟩) := by
  have htk : a.ticks ≤ 1000000000 := by have := G.tk; omega
  cases hf : a.fenced with
  | true =>
    refine (agTick_fenced H hs O htk hf).mono ?_
    rintro r z ⟨rfl, h⟩
    have ht : a.tick.2 = [] := by unfold Mod.Ag.tick; rw [if_pos hf]
    rw [ht]
    exact ⟨_, [], rfl, agOut_of h (Below.refl _ _) ⟨rfl, World.ownsRow_nil _ _ _ _, (fun j v hj => by simp at hj), (fun i j u v hi => by simp at hi), fun k hk => fun h => h⟩⟩
  | false =>
    cases hw : a.welcome with
    | false =>
      refine (agTick_hello H hs O htk G.ep hf hw).mono ?_
      rintro r z ⟨lv, fs, x, rfl, h1, h2, h3⟩
      exact ⟨lv, fs, rfl, agOut_of h1 h2 h3⟩
    | true => exact agTick_send H hs O htk (fun i hi => by have := G.sum i hi; omega) (fun i hi x hx => ⟨(G.bod i hi x hx).1, by have := (G.bod i hi x hx).2; omega⟩) hf hw
end
/-- The program's agent in memory, behind the courier's own door. -/
def CaAt (w : World) (v : Nat) (a : Mod.Ag) (U : Nat → Prop) : Prop :=
  ∃ p g free sh pl st c, w.heap[v]? = some (.cells #[ptrTo p] 90 (0, 0)) ∧ PaAt w p g a.ticks a.welcome a.fenced free sh st c ∧ Sound st ∧ OnAg a st.opening g free sh pl ∧ U = fun k => k = v ∨ PaU p c k
theorem caAt_lt {w : World} {v : Nat} {a : Mod.Ag} {U : Nat → Prop} (h : CaAt w v a U) : ∀ k, U k → k < w.heap.size := by
  obtain ⟨p, g, free, sh, pl, st, c, hb, H, _, _, rfl⟩ := h
  rintro k (rfl | hk)
  · exact lt_of_block hb
  · exact H.lt k hk
theorem caAt_far {w w' : World} {v : Nat} {a : Mod.Ag} {U E : Nat → Prop} (h : CaAt w v a U) (hf : Far E w w') (hE : ∀ k, U k → ¬ E k) : CaAt w' v a U := by
  obtain ⟨p, g, free, sh, pl, st, c, hb, H, h1, h2, rfl⟩ := h
  exact ⟨p, g, free, sh, pl, st, c, hf.blk hb (hE v (.inl rfl)), H.far hf (fun k hk => hE k (.inr hk)), h1, h2, rfl⟩
section
variable {w z : World} {p v : Nat} {g : Nat → Nat} {tk : Nat} {wel fen : Bool} {free : List Nat} {sh : Nat → List (Nat × Value)} {st : Mod.Stv} {c : Av} {a a' : Mod.Ag} {U : Nat → Prop} {N : Nat}
theorem ca_not (H : PaAt w p g tk wel fen free sh st c) {q : Nat} (hb : w.heap[v]? = some (.cells #[ptrTo q] 90 (0, 0))) : ¬ PaU p c v :=
  pa_not_cells H hb (by decide) (by decide) (by decide) (by decide) (by decide) (by decide) (by decide)
theorem caAt_is (hb : w.heap[v]? = some (.cells #[ptrTo p] 90 (0, 0))) (hnv : ¬ PaU p c v) (h : AgIs w z p a' c) :
    ∃ U', CaAt z v a' U' ∧ Far (fun k => k = v ∨ PaU p c k) w z ∧ ∀ k, U' k → (k = v ∨ PaU p c k) ∨ w.heap.size ≤ k := by
  obtain ⟨g, free, sh, pl, st, ⟨c', K, F', Nn, s1, s2⟩, hs, O⟩ := h
  refine ⟨_, ⟨p, g, free, sh, pl, st, c', F'.blk hb hnv, K, hs, O, rfl⟩, F'.mono (fun _ _ h => .inr h), ?_⟩
  rintro k (rfl | hk)
  · exact .inl (.inl rfl)
  · exact (Nn k hk).imp .inr id
theorem caSubmit_any (i : Int) (s : ByteArray) (h : CaAt w v a U) (G : AgGood N a) (hN : N < 1000000000) :
    Calls Tryz.prog 21 #[ptrTo v, .int .i64 i, .string s] w fun r w' =>
      ∃ U', r = .returned (.int .i64 (a.refuses i s.size)) ∧ CaAt w' v (agSubmits a i s) U' ∧ Far U w w' ∧ ∀ k, U' k → U k ∨ w.heap.size ≤ k := by
  obtain ⟨p, g, free, sh, pl, st, c, hb, H, hs, O, rfl⟩ := h
  have c0 : w.cell? ⟨v, 0, none⟩ = some (ptrTo p) := blk_cell (i := 0) hb
  have hA : Calls Tryz.prog 52 #[ptrTo p, .int .i64 i, .string s] w fun r z => r = .returned (.int .i64 (a.refuses i s.size)) ∧ AgIs w z p (agSubmits a i s) c := by
    unfold agSubmits
    by_cases h0 : a.refuses i s.size = 0
    · rw [if_pos h0]
      obtain ⟨⟨h1, h2⟩, h3, h4⟩ := refuses_0 h0
      obtain ⟨n, rfl⟩ := Int.eq_ofNat_of_zero_le h1
      refine (agSubmit_ok H hs O (i := n) (by omega) s h3 h4 (by have := G.sum n (by omega); omega)).mono ?_
      rintro r z ⟨rfl, h⟩
      exact ⟨by rw [h0], h⟩
    · rw [if_neg h0]
      refine (agSubmit_no H hs O i s h0).mono ?_
      rintro r z ⟨rfl, rfl⟩
      exact ⟨rfl, agIs_refl H hs O⟩
  have HA := hide hA
  have HB := hide (And.intro hb (ca_not H hb))
  generalize agSubmits a i s = a2 at *
  generalize a.refuses i s.size = e at *
  clear H O hs hb hA
  unfold ptrTo at *
  go_enter Tryz.func21, Tryz.ntmps21
  go_wp2_with (go_at_call 52; refine (unhide HA).mono ?_; rintro r y ⟨rfl, k1⟩; replace k1 := hide k1)
  go_ret
  obtain ⟨U', h1, h2, h3⟩ := caAt_is (unhide HB).1 (unhide HB).2 (unhide k1)
  exact ⟨U', rfl, h1, h2, h3⟩
theorem caDeliver_any (bs : Value) (l : List UInt8) (h : CaAt w v a U) (G : AgGood N a) (hN : N < 1000000000) (hat : BytesAt w bs l) :
    Calls Tryz.prog 28 #[ptrTo v, bs] w fun r w' =>
      ∃ U', r = .returned (.int .i64 (agSays a l).1) ∧ CaAt w' v (agSays a l).2 U' ∧ Far U w w' ∧ ∀ k, U' k → U k ∨ w.heap.size ≤ k := by
  obtain ⟨p, g, free, sh, pl, st, c, hb, H, hs, O, rfl⟩ := h
  have c0 : w.cell? ⟨v, 0, none⟩ = some (ptrTo p) := blk_cell (i := 0) hb
  have HA := hide (agDeliver_any H hs O (fun i hi => by have := G.sum i hi; omega) bs l hat)
  have HB := hide (And.intro hb (ca_not H hb))
  generalize (agSays a l).2 = a2 at *
  generalize (agSays a l).1 = e at *
  clear H O hs hb hat
  unfold ptrTo at c0 HA
  show Calls Tryz.prog _ #[.pointer (some ⟨v, 0, none⟩), bs] w _
  go_enter Tryz.func28, Tryz.ntmps28
  go_wp2_with (go_at_call 57; refine (unhide HA).mono ?_; rintro r y ⟨rfl, k1⟩; replace k1 := hide k1)
  go_ret
  obtain ⟨U', h1, h2, h3⟩ := caAt_is (unhide HB).1 (unhide HB).2 (unhide k1)
  exact ⟨U', rfl, h1, h2, h3⟩
theorem caTick_any (h : CaAt w v a U) (G : AgGood N a) (hN : N < 1000000000) :
    Calls Tryz.prog 24 #[ptrTo v] w fun r w' =>
      ∃ lv fs U', r = .returned lv ∧ FramesOut w.heap.size w' lv fs (a.tick.2.map fun l => ⟨l.toArray⟩) U' ∧ CaAt w' v a.tick.1 U' ∧ Far U w w' ∧ ∀ k, U' k → U k ∨ w.heap.size ≤ k := by
  obtain ⟨p, g, free, sh, pl, st, c, hb, H, hs, O, rfl⟩ := h
  have c0 : w.cell? ⟨v, 0, none⟩ = some (ptrTo p) := blk_cell (i := 0) hb
  have HA := hide (agTick_any H hs O G hN)
  have hvl := lt_of_block hb
  have HB := hide (And.intro hb (ca_not H hb))
  generalize a.tick.1 = a2 at *
  generalize a.tick.2 = fr at *
  clear H O hs hb
  unfold ptrTo at *
  go_enter Tryz.func24, Tryz.ntmps24
  go_wp2_with (go_at_call 53; refine (unhide HA).mono ?_; rintro r y ⟨lv, fs, rfl, k1⟩; replace k1 := hide k1)
  go_ret
  obtain ⟨c', k1, ⟨g2, free2, sh2, pl2, st2, K, hs2, O2⟩, F, Nn, s1, s2⟩ := unhide k1
  obtain ⟨hb, hnv⟩ := unhide HB
  refine ⟨lv, fs, fun k => k = v ∨ PaU p c' k, rfl, k1.apartU ?_, ⟨p, g2, free2, sh2, pl2, st2, c', F.blk hb hnv, K, hs2, O2, rfl⟩, F.mono (fun _ _ h => .inr h), ?_⟩
  · rintro k hk (rfl | hu)
    · have := (k1.lt k hk).1; omega
    · exact k1.clear k hk hu
  · rintro k (rfl | hk)
    · exact .inl (.inl rfl)
    · exact (Nn k hk).imp .inr id
theorem caEpoch_any (h : CaAt w v a U) :
    Calls Tryz.prog 39 #[ptrTo v] w fun r w' => r = .returned (.int .i64 a.epoch) ∧ Below w.heap.size w w' := by
  obtain ⟨p, g, free, sh, pl, st, c, hb, H, hs, O, rfl⟩ := h
  have c0 : w.cell? ⟨v, 0, none⟩ = some (ptrTo p) := blk_cell (i := 0) hb
  have hD := agEpoch_any H
  rw [O.ep] at hD
  have HD := hide hD
  clear H hb hD O
  unfold ptrTo at *
  go_enter Tryz.func39, Tryz.ntmps39
  go_wp2_with (go_at_call 66; refine (unhide HD).mono ?_; rintro r y ⟨rfl, hy⟩; obtain rfl : w = y := hy.symm)
  go_ret
  exact ⟨rfl, Below.refl _ _⟩
theorem caSpool_any (i : Int) (h : CaAt w v a U) :
    Calls Tryz.prog 26 #[ptrTo v, .int .i64 i] w fun r w' =>
      ∃ lv, r = .returned lv ∧ w'.ownsRow w.heap.size 9 1 lv (agSpools a i).length (strs (agSpools a i)) ∧ Below w.heap.size w w' := by
  obtain ⟨p, g, free, sh, pl, st, c, hb, H, hs, O, rfl⟩ := h
  have c0 : w.cell? ⟨v, 0, none⟩ = some (ptrTo p) := blk_cell (i := 0) hb
  have HD := hide (agSpool_any H hs O i)
  generalize agSpools a i = xs at *
  clear H hb O
  unfold ptrTo at *
  go_enter Tryz.func26, Tryz.ntmps26
  go_wp2_with (go_at_call 55; refine (unhide HD).mono ?_; rintro r y ⟨lv, rfl, k1, k2⟩; replace k1 := hide k1; replace k2 := hide k2)
  go_ret
  exact ⟨lv, rfl, unhide k1, unhide k2⟩
theorem caOpen_zero {w : World} (bs : Value) (hat : BytesAt w bs (List.replicate 1664 0)) :
    Calls Tryz.prog 37 #[bs] w fun r w' =>
      ∃ v U, r = .returned (.tuple #[ptrTo v, .int .i64 0]) ∧ CaAt w' v { epoch := 1, ticks := 0, welcome := false, fenced := false, fl := fun _ => { base := 0, kept := [], held := [] } } U ∧ Below w.heap.size w w' ∧ ∀ k, U k → w.heap.size ≤ k := by
  obtain ⟨m, hm⟩ : ∃ m, m = 26 := ⟨_, rfl⟩
  have hm64 : 1664 = m * 64 := by omega
  rw [hm64] at hat
  have HD := hide (agOpen_zero w bs m hm hat)
  clear hat hm64 hm
  unfold ptrTo at *
  go_enter Tryz.func37, Tryz.ntmps37
  go_wp2_with (go_at_call 64; refine (unhide HD).mono ?_; rintro r y ⟨p, st, c, rfl, K, hs, hop, hb, hU⟩; replace K := hide K; replace hb := hide hb; replace hU := hide hU)
  go_ret2
  have hb := unhide hb
  refine ⟨y.heap.size, _, rfl, ⟨p, _, _, _, _, st, c, heap_alloc_new _ _, (unhide K).below ((Below.refl _ _).alloc (Nat.le_refl _) _), hs, by rw [hop]; exact onAg_zero, rfl⟩, hb.alloc hb.size _, ?_⟩
  rintro k (rfl | hk)
  · exact hb.size
  · exact (unhide hU) k hk
end
/-- The program's agent. -/
def theAgent : AgentC 1000000000 where
  At := CaAt
  lt := caAt_lt
  far := caAt_far
  submit := caSubmit_any
  deliver := caDeliver_any
  tick := caTick_any
  epoch := caEpoch_any
  spool := caSpool_any
  opened := caOpen_zero
end Go.Proofs.YtamafdcnbcoegaaGreat
namespace Go.Proofs.YtamafdcnbcoegaaGreat
open Go.RowKit

section
theorem row_zero {B : Nat} {w : World} {e : TypeId} {size n : Nat} {v : Value} {xs : List Value} (h : w.ownsRow B e size v n xs) : w.ownsRow 0 e size v n xs := by
  obtain ⟨h1, h2⟩ := h
  refine ⟨h1, ?_⟩
  rcases h2 with h2 | ⟨g, cap, cur, h3, _, h4⟩
  · exact .inl h2
  · exact .inr ⟨g, cap, cur, h3, Nat.zero_le _, h4⟩
end
end Go.Proofs.YtamafdcnbcoegaaGreat
namespace Go.Proofs.YtamafdcnbcoegaaGreat
open Go.RowKit

theorem stable_row (B : Nat) (e : TypeId) (n : Nat) (xs : List Value) : Stable (fun v w => w.ownsRow B e 1 v n xs) := fun _ _ _ h hb => ownsRow_keep h (fun g hg => hb.block g (World.ownsRow.lt h g hg).2)
theorem row_base {B B' : Nat} {w : World} {e : TypeId} {size n : Nat} {v : Value} {xs : List Value} (h : w.ownsRow B e size v n xs) (hb : B' ≤ B) : w.ownsRow B' e size v n xs := by
  obtain ⟨h1, h2⟩ := h
  refine ⟨h1, ?_⟩
  rcases h2 with h2 | ⟨g, cap, cur, h3, h4, h5⟩
  · exact .inl h2
  · exact .inr ⟨g, cap, cur, h3, Nat.le_trans hb h4, h5⟩

end Go.Proofs.YtamafdcnbcoegaaGreat
namespace Go.Proofs.YtamafdcnbcoegaaGreat
open Go.RowKit

/-- What a step on an agent leaves of the pair and of the world. -/
structure AgTaken {top : Nat} (C : AgentC top) (M : Nat) (A : Nat → Nat → Prop) (w y : World) (wb q sv rp : Nat) (as_ ss hv : Value) (a' : Mod.Ag) (r : RRest) (kv hk : Nat → Value) (U : Nat → Prop) (N : Nat) : Prop where
  all : ∃ (hv3 : Value) (hs3 : List Nat) (kvd hkd : Nat → Value) (U' : Nat → Prop) (left : Int), hs3.length ≤ N ∧
    WorldAt (fun b o => b < y.heap.size ∧ ¬ Us wb hv3 b ∧ ¬ AgPairU q rp kvd hkd U' b ∧ (A b o ∨ w.heap.size ≤ b)) y wb as_ ss hv3 hs3 ∧ AgPairAt C M y q sv rp a' r kvd hkd U' left ∧
    (∀ k, AgPairU q rp kvd hkd U' k → AgPairU q rp kv hk U k ∨ w.heap.size ≤ k) ∧ (∀ k, AgPairU q rp kvd hkd U' k → ¬ Us wb hv3 k) ∧ Far (fun k => AgPairU q rp kv hk U k ∨ Us wb hv k) w y ∧ Loc w hv hv3
/-- What told leaves. -/
theorem AgTaken.told {top M : Nat} {C : AgentC top} {A : Nat → Nat → Prop} {w x y : World} {wb q sv rp N : Nat} {as_ ss hv hv2 lw : Value} {hs2 : List Nat} {a : Mod.Ag} {r : RRest} {lv hk : Nat → Value} {U : Nat → Prop} {left : Int}
    (P : AgPairAt C M w q sv rp a r lv hk U left) (hA : ∀ b o, A b o → b < w.heap.size ∧ ¬ Us wb hv b ∧ ¬ AgPairU q rp lv hk U b) (hPU : ∀ k, AgPairU q rp lv hk U k → ¬ Us wb hv k) (hb : Below w.heap.size w x) (hlw : ∀ g, lw.ownBlock = some g → w.heap.size ≤ g)
    (W : WorldAt (fun b o => (b < y.heap.size ∧ ¬ Us wb hv2 b) ∧ (A b o ∨ lw.ownBlock = some b ∨ x.heap.size ≤ b)) y wb as_ ss hv2 hs2) (F : Far (fun k => lw.ownBlock = some k ∨ Us wb hv k) x y) (L : Loc x hv hv2) (hN : hs2.length ≤ N) : AgTaken C M A w y wb q sv rp as_ ss hv a r lv hk U N := by
  have hpl := P.lt
  have hx := hb.size
  have hE : ∀ k, AgPairU q rp lv hk U k → ¬ (lw.ownBlock = some k ∨ Us wb hv k) := by
    rintro k h (e | e)
    · have := hlw k e; have := hpl k h; omega
    · exact hPU k h e
  refine ⟨hv2, hs2, lv, hk, U, left, hN, W.mono ?_, (P.far (far_below (E := fun _ => False) hb) (fun _ _ h => h)).far F hE, fun k h => .inl h, ?_, ?_, L.mono hx⟩
  · rintro b o ⟨⟨h1, h2⟩, h3⟩
    refine ⟨h1, h2, fun hp => ?_, ?_⟩
    · rcases h3 with h | h | h
      · exact (hA b o h).2.2 hp
      · have := hlw b h; have := hpl b hp; omega
      · have := hpl b hp; omega
    · rcases h3 with h | h | h
      · exact .inl h
      · exact .inr (hlw b h)
      · exact .inr (by omega)
  · rintro k h (e | e)
    · exact hPU k h (.inl e)
    · rcases L with h' | h' | ⟨g', h', hg'⟩
      · rw [h'] at e; cases e
      · exact hPU k h (.inr (h' ▸ e))
      · rw [h'] at e; injection e with e; have := hpl k h; omega
  · refine (far_below (E := fun k => AgPairU q rp lv hk U k ∨ Us wb hv k) hb).trans F ?_
    rintro k hk' (e | e)
    · have := hlw k e; omega
    · exact .inr e

set_option maxRecDepth 100000 in
set_option maxHeartbeats 8000000 in
theorem onAgent_spool {top M : Nat} (C : AgentC top) (A : Nat → Nat → Prop) (w : World) (wb : Nat) (as_ ss hv : Value) (hs : List Nat) (nn i : Int) (s : ByteArray) (kp fk fe fst fq : Int) (fb : ByteArray) (q sv rp : Nat) (a : Mod.Ag) (r : RRest) (lv hk : Nat → Value) (U : Nat → Prop) (left : Int)
    (H : WorldAt A w wb as_ ss hv hs) (P : AgPairAt C M w q sv rp a r lv hk U left) (hA : ∀ b o, A b o → b < w.heap.size ∧ ¬ Us wb hv b ∧ ¬ AgPairU q rp lv hk U b) (hPU : ∀ k, AgPairU q rp lv hk U k → ¬ Us wb hv k) (zh : hs.length + 12 ≤ 17592186044416) :
    Calls Tryz.prog 80 #[ptrTo wb, ptrTo q, opVal 7 nn i s kp fk fe fst fq fb] w fun x w' => x = .returned (.bool true) ∧ AgTaken C M A w w' wb q sv rp as_ ss hv a r lv hk U (hs.length + 12) := by
  have HP := hide P
  have hal : (agSpools a i).length ≤ 24 := by
    unfold agSpools
    split
    · have := P.ref.kl i.toNat (by omega)
      simpa [Mod.Ag.spool] using this
    · simp
  have HH := hide H
  have HAA := hide hA
  have HPU := hide hPU
  have PX := fun (x : World) (hb : Below w.heap.size w x) => hide (P.far (far_below (E := fun _ => False) hb) (fun _ _ h => h))
  have hq := lt_of_block P.blk
  have q0 : ∀ x : World, Below w.heap.size w x → x.cell? ⟨q, 0, none⟩ = some (ptrTo sv) := fun x hb => blk_cell (i := 0) (unhide (PX x hb)).blk
  have q1 : ∀ x : World, Below w.heap.size w x → x.cell? ⟨q, 1, none⟩ = some (ptrTo rp) := fun x hb => blk_cell (i := 1) (unhide (PX x hb)).blk
  have HB := hide ((Below.refl w.heap.size w).alloc (Nat.le_refl _) (.cells #[.int .i64 7, .int .i64 nn, .int .i64 i, .string s, .int .u64 kp, .int .i64 fk, .int .i64 fe, .int .i64 fst, .int .i64 fq, .string fb] 86))
  have HQ0 := hide q0
  have HQ1 := hide q1
  have z0 := q0 _ (unhide HB)
  have HE := fun x (hb : Below w.heap.size w x) => hide (C.epoch (unhide (PX x hb)).prog)
  have HLg := fun x (hb : Below w.heap.size w x) => hide (C.spool i (unhide (PX x hb)).prog)
  have HRl := fun x (hb : Below w.heap.size w x) => hide (refSpool_word (unhide (PX x hb)).ref P.dead i)
  clear P H hA hPU q0 q1
  unfold ptrTo at *
  unfold opVal
  go_enter Tryz.func80, Tryz.ntmps80
  go_upto_region 11 with fail
  go_upto_region 12 with (go_at_call 39; refine (unhide (HE _ (by first | exact unhide HB | exact below_drewN (unhide HB) _))).mono ?_; rintro r1 x1 ⟨rfl, hb1⟩)
  have hbx := boxed_cells hb1 2
  refine wp_world (fun x => Below w.heap.size w x ∧ w.heap.size < x.heap.size ∧ x.cell? ⟨w.heap.size, 2, none⟩ = some (.int .i64 i)) ⟨(unhide HB).trans (hb1.mono (by simp)), Nat.lt_of_lt_of_le (by simp) hb1.size, hbx⟩ ?_
  clear hbx hb1 z0 HB
  rintro x2 ⟨B2, hl2, c2⟩
  have BB2 := hide B2
  have hq2 : q < x2.heap.size := Nat.lt_of_lt_of_le hq B2.size
  have y0 := (unhide HQ0) x2 B2
  clear B2
  refine wp_region_frame (by kernel_rfl)
    [fun v _ => v = .pointer (some ⟨q, 0, none⟩), fun v _ => v = .pointer (some ⟨q, 0, none⟩), fun v _ => v = .pointer (some ⟨q, 0, none⟩), fun v _ => v = .pointer (some ⟨sv, 0, none⟩), fun v _ => v = .pointer (some ⟨w.heap.size, 2, none⟩), fun v _ => v = .int .i64 i, fun v w' => w'.ownsRow w.heap.size 9 1 v (agSpools a i).length (strs (agSpools a i)), fun v w' => w'.ownsRow w.heap.size 9 1 v (agSpools a i).length (strs (agSpools a i))]
    [[(1, none)], [(49, some 0)], [(50, some 1)], [(51, some 2)], [(5, none)], [(53, some 4)], [(52, some 3), (54, some 5)], [(55, some 6)]]
    [some 49, some 50, some 51, some 52, some 53, some 54, some 55, some 10]
    [false, false, false, false, false, false, false, false, false, false, true, false, false, false, false, false, false, false, false, false, false, false, false, false, false, false, false, false, false, false, false, false, false, false, false, false, false, false, false, false, false, false, false, false, false, false, false, false, false, true, true, true, true, true, true, true, false, false, false, false, false, false, false, false, false, false, false, false, false, false, false, false, false, false, false, false, false, false, false, false, false, false, false, false, false, false, false, false, false, false, false, false, false, false, false, false, false, false, false, false, false, false, false, false, false, false, false, false, false, false, false, false, false, false, false, false, false, false, false]
    (by kernel_rfl) (by kernel_rfl) (by kernel_rfl) (by kernel_rfl) ?_ ?_ ?_
  · repeat' (first | exact stable_eq _ | exact stable_row _ _ _ _ | exact trivial | apply And.intro)
  · refine ⟨?_, ?_, ?_, ?_, ?_, ?_, ?_, ?_, trivial⟩
    all_goals
      intro b x hb hf
      have z0 := (hb.cell (p := ⟨q, 0, none⟩) hq2).trans y0
      have z1 := (hb.cell (p := ⟨w.heap.size, 2, none⟩) hl2).trans c2
      have HLx := HLg x ((unhide BB2).trans (hb.mono (unhide BB2).size))
      have hws := Nat.le_trans (unhide BB2).size hb.size
      clear hb
      simp only [PlanFacts, List.getD_cons_zero, List.getD_cons_succ, Array.getD_eq_getD_getElem?] at hf
      try simp only [and_true] at hf
      try go_simp
      try exact Below.refl _ _
    all_goals first
      | exact ⟨rfl, Below.refl _ _⟩
      | (refine (unhide HLx).mono ?_; rintro e x' ⟨v, rfl, ho, hb2⟩; exact ⟨_, rfl, hb2, row_base ho hws⟩)
      | exact ⟨_, rfl, Below.refl _ _, hf⟩
      | skip
  · intro f x3 hb3 hwd
    simp only [AllWords] at hwd
    have hrow := hwd.2.2.2.2.2.2.2.1
    obtain ⟨lw, hlw⟩ : ∃ lw, lw = f 10 := ⟨_, rfl⟩
    rw [← hlw] at hrow
    have HR3 := hide hrow
    have BB3 := hide ((unhide BB2).trans (hb3.mono (unhide BB2).size))
    have hl3 := Nat.lt_of_lt_of_le hl2 hb3.size
    have c3 := (hb3.cell (p := ⟨w.heap.size, 2, none⟩) hl2).trans c2
    have hq3 := Nat.lt_of_lt_of_le hq2 hb3.size
    have y1 := (unhide HQ1) x3 (unhide BB3)
    clear hwd hrow hb3 c2 y0 hl2 hq2 BB2
    simp only [mergeT, ← hlw]
    clear hlw
    go_upto_region 13 with fail
    refine wp_region_frame (by kernel_rfl)
      [fun v _ => v = .pointer (some ⟨q, 0, none⟩), fun v _ => v = .pointer (some ⟨q, 0, none⟩), fun v _ => v = .pointer (some ⟨q, 1, none⟩), fun v _ => v = .pointer (some ⟨rp, 0, none⟩), fun v _ => v = .pointer (some ⟨w.heap.size, 2, none⟩), fun v _ => v = .int .i64 i, fun v w' => w'.ownsRow w.heap.size 9 1 v (agSpools a i).length (strs (agSpools a i)), fun v w' => w'.ownsRow w.heap.size 9 1 v (agSpools a i).length (strs (agSpools a i))]
      [[(1, none)], [(56, some 0)], [(57, some 1)], [(58, some 2)], [(5, none)], [(60, some 4)], [(59, some 3), (61, some 5)], [(62, some 6)]]
      [some 56, some 57, some 58, some 59, some 60, some 61, some 62, some 11]
      [false, false, false, false, false, false, false, false, false, false, false, true, false, false, false, false, false, false, false, false, false, false, false, false, false, false, false, false, false, false, false, false, false, false, false, false, false, false, false, false, false, false, false, false, false, false, false, false, false, false, false, false, false, false, false, false, true, true, true, true, true, true, true, false, false, false, false, false, false, false, false, false, false, false, false, false, false, false, false, false, false, false, false, false, false, false, false, false, false, false, false, false, false, false, false, false, false, false, false, false, false, false, false, false, false, false, false, false, false, false, false, false, false, false, false, false, false, false, false]
      (by kernel_rfl) (by kernel_rfl) (by kernel_rfl) (by kernel_rfl) ?_ ?_ ?_
    · repeat' (first | exact stable_eq _ | exact stable_row _ _ _ _ | exact trivial | apply And.intro)
    · refine ⟨?_, ?_, ?_, ?_, ?_, ?_, ?_, ?_, trivial⟩
      all_goals
        intro b x hb hf
        have z0 := (hb.cell (p := ⟨q, 1, none⟩) hq3).trans y1
        have z1 := (hb.cell (p := ⟨w.heap.size, 2, none⟩) hl3).trans c3
        have HLx := HRl x ((unhide BB3).trans (hb.mono (unhide BB3).size))
        have hws := Nat.le_trans (unhide BB3).size hb.size
        clear hb
        simp only [PlanFacts, List.getD_cons_zero, List.getD_cons_succ, Array.getD_eq_getD_getElem?] at hf
        try simp only [and_true] at hf
        try go_simp
        try exact Below.refl _ _
      all_goals first
        | exact ⟨rfl, Below.refl _ _⟩
        | (refine (unhide HLx).mono ?_; rintro e x' ⟨v, rfl, ho, hb2⟩; exact ⟨_, rfl, hb2, row_base ho hws⟩)
        | exact ⟨_, rfl, Below.refl _ _, hf⟩
        | skip
    · intro f2 x4 hb4 hwd
      simp only [AllWords] at hwd
      obtain ⟨kw, hkw⟩ : ∃ kw, kw = f2 11 := ⟨_, rfl⟩
      have hrow2 := hwd.2.2.2.2.2.2.2.1
      rw [← hkw] at hrow2
      have HR2 := hide hrow2
      have BB4 := hide ((unhide BB3).trans (hb4.mono (unhide BB3).size))
      have HR4 := hide (stable_row _ _ _ _ _ _ _ (unhide HR3) hb4)
      clear hwd hb4 c3 y1 hl3 hq3 BB3 HR3 hrow2
      simp only [mergeT, ← hkw]
      clear hkw
      have HX := (unhide HH).far (far_below (E := fun _ => False) (unhide BB4)) (fun _ _ h => h) (fun b o h => ⟨((unhide HAA) b o h).1, fun h => h⟩)
      have hlt4 := fun g (hg : lw.ownBlock = some g) => (World.ownsRow.lt (unhide HR4) g hg).1
      have KT := hide (told_yes A x4 wb as_ ss hv lw kw hs (agSpools a i) HX (row_zero (unhide HR4)) (listAt_own (unhide HR2))
        (fun b o h => ⟨Nat.lt_of_lt_of_le ((unhide HAA) b o h).1 (unhide BB4).size, fun e => e.elim (fun e => by have := hlt4 b e; have := ((unhide HAA) b o h).1; omega) ((unhide HAA) b o h).2.1⟩) (by omega) (by have := hal; omega))
      have HL4 := hide hlt4
      clear HX hlt4 HR4 HLg HRl HE HQ0 HQ1 PX
      unfold ptrTo at KT
      go_upto_region 14 with fail
      go_upto_region 15 with (go_at_call 123; refine (unhide KT).mono ?_; rintro r5 x5 ⟨rfl, hv2, hs2, hn2, W, F, L⟩; have TT := hide (AgTaken.told (N := hs.length + 12) (unhide HP) (unhide HAA) (unhide HPU) (unhide BB4) (unhide HL4) W F L (by omega)); clear W F L hn2)
      obtain ⟨hv3, hs3, lvd, hkd, U', left', hN3, W3, P3, r3, u3, F3, L3⟩ := (unhide TT).all
      have c1 := blk_cell (i := 1) P3.blk
      have d0 := blk_cell (i := 0) P3.ref.blk
      simp [refCells, ptrTo] at c1 d0
      clear hN3 W3 P3 r3 u3 F3 L3 KT HP HH HAA HPU BB4 HL4
      go_wp2
      go_ret
      exact ⟨rfl, unhide TT⟩

end Go.Proofs.YtamafdcnbcoegaaGreat
