/-
  Part 14 of a proof: L24, L25, U3, L26, D25, B1, K30, K31, T6, K32, K33, Q6, E4, E5, E6.
-/
import Derived.Maps.AppendAt
import Derived.Test.YtamafdcnbcoegaaGreatFe13
namespace Go.Proofs.YtamafdcnbcoegaaGreat
open Go.RowKit
def tickFr (a : Mod.Ag) (t s : Nat) : List ByteArray := (Mod.sendOut a.epoch t a.fl s).map fun l => ⟨l.toArray⟩
theorem tickFr_succ (a : Mod.Ag) (t s : Nat) : tickFr a t (s + 1) = tickFr a t s ++ sentFr (tickAg a t s) s t 4 := by
 unfold tickFr sentFr
 rw [tickAg_fl]
 show (Mod.sendOut a.epoch t a.fl s ++ (Mod.sendTo a.epoch s (a.fl s) t 4).2).map _ = _
 rw [List.map_append]
 rfl
theorem get_app {α : Type} {l r : List α} {j : Nat} {u : α} (h : (l ++ r)[j]? = some u) : (l[j]? = some u ∧ j < l.length) ∨ (r[j - l.length]? = some u ∧ l.length ≤ j) := by
 by_cases hj : j < l.length
 ·rw [List.getElem?_append_left hj] at h; exact .inl ⟨h, hj⟩
 ·rw [List.getElem?_append_right (by omega)] at h; exact .inr ⟨h, by omega⟩
theorem framesOut_app {B : Nat} {x y z : World} {lv lv2 lv' : Value} {fs fs2 : List Value} {F F2 : List ByteArray} {U U' : Nat → Prop}
  (h1 : FramesOut B x lv fs F U) (h2 : FramesOut x.heap.size y lv2 fs2 F2 U') (hF : Far U x y) (hN : ∀ k, U' k → U k ∨ x.heap.size ≤ k) (hUl : ∀ k, U' k → k < y.heap.size) (hB : B ≤ x.heap.size)
  (hr : z.ownsRow B 44 1 lv' (fs.length + fs2.length) (fs ++ fs2)) (hg : y.grownBy z lv.ownBlock) (hl : lv'.ownBlock = lv.ownBlock ∨ lv'.ownBlock = some y.heap.size) : FramesOut B z lv' (fs ++ fs2) (F ++ F2) U' := by
 have hlen1 := h1.len
 have hlen2 := h2.len
 have hxy := hF.size
 have hlvb : ∀ k, lv.ownBlock = some k → B ≤ k ∧ k < x.heap.size := fun k hk => h1.lt k (.inl hk)
 have old : ∀ (j : Nat) (u : Value), fs[j]? = some u → ∀ k, u.ownBlock = some k → B ≤ k ∧ k < x.heap.size ∧ ¬ U k ∧ lv.ownBlock ≠ some k := fun j u hj k hk => by
  have hd : Done fs fs.length k := ⟨j, (List.getElem?_eq_some_iff.1 hj).1, u, hj, hk⟩
  have h3 := h1.lt k (.inr hd)
  exact ⟨h3.1, h3.2, h1.clear k (.inr hd), own_ty (own0 (h1.each j u hj)) (own0 h1.row) (by decide) hk⟩
 have new : ∀ (j : Nat) (u : Value), fs2[j]? = some u → ∀ k, u.ownBlock = some k → x.heap.size ≤ k ∧ k < y.heap.size ∧ ¬ U' k := fun j u hj k hk => by
  have hd : Done fs2 fs2.length k := ⟨j, (List.getElem?_eq_some_iff.1 hj).1, u, hj, hk⟩
  have h3 := h2.lt k (.inr hd)
  exact ⟨h3.1, h3.2, h2.clear k (.inr hd)⟩
 refine ⟨by simp [hlen1, hlen2], by simpa using hr, fun j u hj => ?_, fun j1 j2 u1 u2 hj1 hj2 hjn k hk1 hk2 => ?_, fun k hk hu => ?_⟩
 ·rcases get_app hj with ⟨hj, hjl⟩ | ⟨hj, hjl⟩
  ·have e : ((F ++ F2).map fun b => b.data.toList).getD j [] = (F.map fun b => b.data.toList).getD j [] := by
    rw [List.getD_eq_getElem?_getD, List.getD_eq_getElem?_getD, List.map_append, List.getElem?_append_left (by simp; omega)]
   rw [e]
   exact ownsRow_keep (h1.each j u hj) (fun k hk => by
    obtain ⟨q1, q2, q3, q4⟩ := old j u hj k hk
    exact (hg.block k (by omega) (fun e => q4 e.symm)).trans (hF.rest k q2 q3))
  ·have e : ((F ++ F2).map fun b => b.data.toList).getD j [] = (F2.map fun b => b.data.toList).getD (j - fs.length) [] := by
    rw [List.getD_eq_getElem?_getD, List.getD_eq_getElem?_getD, List.map_append, List.getElem?_append_right (by simp; omega)]
    simp [hlen1]
   rw [e]
   refine ownsRow_monoB (ownsRow_keep (h2.each _ u hj) (fun k hk => ?_)) hB
   obtain ⟨q1, q2, q3⟩ := new _ u hj k hk
   exact hg.block k q2 (fun e => by have := (hlvb k e.symm).2; omega)
 ·rcases get_app hj1 with ⟨a1, b1⟩ | ⟨a1, b1⟩ <;> rcases get_app hj2 with ⟨a2, b2⟩ | ⟨a2, b2⟩
  ·exact h1.apart j1 j2 u1 u2 a1 a2 hjn k hk1 hk2
  ·have := old j1 u1 a1 k hk1; have := new _ u2 a2 k hk2; omega
  ·have := old j2 u2 a2 k hk2; have := new _ u1 a1 k hk1; omega
  ·exact h2.apart _ _ u1 u2 a1 a2 (by omega) k hk1 hk2
 ·rcases hk with hk | ⟨j, hj, u, hju, hk⟩
  ·rcases hl with e | e
   ·rw [e] at hk
    have h3 := hlvb k hk
    rcases hN k hu with h4 | h4
    ·exact h1.clear k (.inl hk) h4
    ·omega
   ·rw [e] at hk
    injection hk with hk
    have := hUl k hu
    omega
  ·rcases get_app hju with ⟨a1, b1⟩ | ⟨a1, b1⟩
   ·obtain ⟨q1, q2, q3, q4⟩ := old j u a1 k hk
    rcases hN k hu with h4 | h4
    ·exact q3 h4
    ·omega
   ·exact (new _ u a1 k hk).2.2 hu
end Go.Proofs.YtamafdcnbcoegaaGreat
namespace Go.Proofs.YtamafdcnbcoegaaGreat
open Go.RowKit
theorem wpList_cat_own {ops : Array Oper} {rest : List Oper} {o : Oper} {a : Act} {Q : Exit → Act → World → Prop} {w : World} (hgd : o.guard = none) (s x : Operand) (t : TypeId) (ho : o.op = .call { callee := .builtin .append, args := #[s, x], argTypes := #[t, t] })
  (base : Nat) (e : TypeId) (z : Value) (size bytes : Nat) (ht : Tryz.prog.underlying t = some (.slice e)) (hinfo : (Tryz.prog.info? e).map (fun i => (i.zero, i.size, i.bytes)) = some (some z, size, bytes)) (hzs : z.cells.size = size) (hsz : 0 < size)
  (v : Value) (n : Nat) (xs : List Value) (hown : w.ownsRow base e size v n xs) (hs : a.eval s = v) (base2 : Nat) (v2 : Value) (m : Nat) (news : List Value) (hown2 : w.ownsRow base2 e size v2 m news) (hx : a.eval x = v2)
  (h1 : ∀ u ∈ news, u.oneCell' = true) (h63 : n + m ≤ maxLen) (hb : (n + m) * bytes ≤ 140737488355328) (hbase : base ≤ w.heap.size)
  (h : ∀ v' w', w'.ownsRow base e size v' (n + m) (xs ++ news) → w.grownBy w' v.ownBlock → (v'.ownBlock = v.ownBlock ∨ v'.ownBlock = some w.heap.size) → wpList Tryz.prog ops Q rest (a.put o.dst v') w') : wpList Tryz.prog ops Q (o :: rest) a w := by
 obtain ⟨i0, hi, hz0, hz1, hz2⟩ := info_parts2 hinfo
 rcases hown2.2 with ⟨rfl, rfl⟩ | ⟨g, cap, cur, rfl, hg1, hg2, hg3, hg4, hg5, hg6⟩
 ·have hn : news = [] := by have := hown2.1; simpa using this
  subst hn
  refine wpList_plain hgd fun K hK => ?_
  have hrun : (Builtin.append_ #[t, t] o.type #[v, .slice none 0 0]).run Tryz.prog w = .ok v w := by
   rcases hown.2 with ⟨rfl, rfl⟩ | ⟨g, cap, cur, rfl, _, _, hnc, _⟩
   ·simp [Builtin.append_, run_underlying ht, sizeOf, typeInfo, hi, Builtin.lenOf, Builtin.firstCells]
   ·simp [Builtin.append_, run_underlying ht, sizeOf, typeInfo, hi, Builtin.lenOf, Builtin.firstCells, hnc, storeCells]
  unfold Oper.wp
  simp [execOp, ho, resolve, invoke, builtin, hs, hx, hrun, Result.andThen]
  exact hK _ _ (h v w (by simpa using hown) (World.grownBy.refl _ _) (.inl rfl))
 ·refine wpList_append_own_at w hgd s x t ho base e i0 z size bytes ht hi hz0 hz1 hz2 hzs hsz v n xs hs hown ⟨g, 0, none⟩ m cap news hx hown2.1 ?_ h1 h63 hb hbase (fun v' w' q1 q2 _ q4 => h v' w' q1 q2 q4)
  intro j u hj
  have hjl : j < m * size := by
   rw [← hown2.1]
   exact (List.getElem?_eq_some_iff.1 hj).1
  have := World.ownsRow.cellAt hown2 j hjl
  rw [hj] at this
  rw [add_mk, Nat.zero_add]
  exact this
theorem sentFr_cnt (a : Mod.Ag) (i t : Nat) : (sentFr a i t 4).length ≤ 4 := by
 unfold sentFr
 rw [List.length_map]
 exact sendTo_cnt _ _ _ _ _
theorem tickFr_cnt (a : Mod.Ag) (t : Nat) : ∀ j, (tickFr a t j).length ≤ 4 * j
 | 0 => Nat.le_refl _
 | j + 1 => by
  have ih := tickFr_cnt a t j
  have h := sentFr_cnt (tickAg a t j) j t
  rw [tickFr_succ, List.length_append]
  omega
theorem FramesOut.one {B : Nat} {w : World} {lv : Value} {fs : List Value} {Fl : List ByteArray} {U : Nat → Prop} (h : FramesOut B w lv fs Fl U) : ∀ u ∈ fs, u.oneCell' = true := by
 intro u hu
 obtain ⟨j, hj, rfl⟩ := List.getElem_of_mem hu
 obtain ⟨ad, cap, e, _⟩ := (own_rowO (h.each j _ (List.getElem?_eq_getElem hj))).shape
 rw [e]
 rfl
section
variable {w : World} {p : Nat} {g : Nat → Nat} {free : List Nat} {sh : Nat → List (Nat × Value)} {st : Mod.Stv} {c : Av} {a : Mod.Ag} {pl : Nat → List Nat}
end
end Go.Proofs.YtamafdcnbcoegaaGreat
namespace Go.Proofs.YtamafdcnbcoegaaGreat
open Go.RowKit
section
variable {top N : Nat} {C : AgentC top} {w x y : World} {q sv rp f : Nat} {a ar ap : Mod.Ag} {r : RRest} {kv kvc hk hkc : Nat → Value} {U U' : Nat → Prop} {left : Int} {i : Int} {s : ByteArray}
end
theorem refuses_0 {a : Mod.Ag} {i : Int} {n : Nat} (h : a.refuses i n = 0) : (0 ≤ i ∧ i < 3) ∧ n ≤ 20 ∧ a.room < 24 := by
 unfold Mod.Ag.refuses at h
 split at h
 ·simp at h
 ·split at h
  ·simp at h
  ·split at h
   ·simp at h
   ·omega
end Go.Proofs.YtamafdcnbcoegaaGreat
namespace Go.Proofs.YtamafdcnbcoegaaGreat
open Go.RowKit
section
variable {w : World} {p : Nat} {g : Nat → Nat} {free : List Nat} {sh : Nat → List (Nat × Value)} {st : Mod.Stv} {c : Av} {a : Mod.Ag} {pl : Nat → List Nat}
end
def CaAt (w : World) (v : Nat) (a : Mod.Ag) (U : Nat → Prop) : Prop :=
 ∃ p g free sh pl st c, w.heap[v]? = some (.cells #[ptrTo p] 90 (0, 0)) ∧ PaAt w p g a.ticks a.welcome a.fenced free sh st c ∧ Sound st ∧ OnAg a st.opening g free sh pl ∧ U = fun k => k = v ∨ PaU p c k
section
variable {w z : World} {p v : Nat} {g : Nat → Nat} {tk : Nat} {wel fen : Bool} {free : List Nat} {sh : Nat → List (Nat × Value)} {st : Mod.Stv} {c : Av} {a a' : Mod.Ag} {U : Nat → Prop} {N : Nat}
theorem ca_not (H : PaAt w p g tk wel fen free sh st c) {q : Nat} (hb : w.heap[v]? = some (.cells #[ptrTo q] 90 (0, 0))) : ¬ PaU p c v :=
 pa_not_cells H hb (by decide) (by decide) (by decide) (by decide) (by decide) (by decide) (by decide)
theorem caEpoch_any (h : CaAt w v a U) :
  Calls Tryz.prog 39 #[ptrTo v] w fun r w' => r = .returned (.int .i64 a.epoch) ∧ Below w.heap.size w w' := by
 obtain ⟨p, g, free, sh, pl, st, c, hb, H, hs, O, rfl⟩ := h
 have c0 : w.cell? ⟨v, 0, none⟩ = some (ptrTo p) := blk_cell (i := 0) hb
 have hD := agEpoch_any H
 rw [O.ep] at hD
 have HD := hide hD
 clear H hb hD O
 unfold ptrTo at *
 go_enter Tryz.func39, Tryz.ntmps39
 go_wp2_with (go_at_call 66; refine (unhide HD).mono ?_; rintro r y ⟨rfl, hy⟩; obtain rfl : w = y := hy.symm)
 go_ret
 exact ⟨rfl, Below.refl _ _⟩
theorem caSpool_any (i : Int) (h : CaAt w v a U) :
  Calls Tryz.prog 26 #[ptrTo v, .int .i64 i] w fun r w' =>
   ∃ lv, r = .returned lv ∧ w'.ownsRow w.heap.size 9 1 lv (agSpools a i).length (strs (agSpools a i)) ∧ Below w.heap.size w w' := by
 obtain ⟨p, g, free, sh, pl, st, c, hb, H, hs, O, rfl⟩ := h
 have c0 : w.cell? ⟨v, 0, none⟩ = some (ptrTo p) := blk_cell (i := 0) hb
 have HD := hide (agSpool_any H hs O i)
 generalize agSpools a i = xs at *
 clear H hb O
 unfold ptrTo at *
 go_enter Tryz.func26, Tryz.ntmps26
 go_wp2_with (go_at_call 55; refine (unhide HD).mono ?_; rintro r y ⟨lv, rfl, k1, k2⟩; replace k1 := hide k1; replace k2 := hide k2)
 go_ret
 exact ⟨lv, rfl, unhide k1, unhide k2⟩
end
end Go.Proofs.YtamafdcnbcoegaaGreat
namespace Go.Proofs.YtamafdcnbcoegaaGreat
open Go.RowKit
set_option maxRecDepth 100000 in
set_option maxHeartbeats 1000000 in
theorem diskImage_any {w : World} {p : Nat} {d : Mod.Dk} {lv uv : Value} (H : DkAt w p d lv uv) (keep : Int) :
  Calls Tryz.prog 144 #[ptrTo p, .int .u64 keep] w fun r w' => ∃ v', r = .returned v' ∧ Owns w.heap.size w' v' d.bytes ∧ Below w.heap.size w w' := by
 obtain ⟨ad, cap, hlv, _⟩ := (RowO.of_own H.row).shape
 obtain ⟨ud, ucap, huv, _⟩ := H.un.shape
 have hlen := H.len
 have hat : BytesAt w lv d.bytes := (show Owns 0 w lv d.bytes from H.row).at
 have HC := hide (cloneBytes_any w lv d.bytes hat (by omega) hlen.2)
 have c0 : w.cell? ⟨p, 0, none⟩ = some lv := blk_cell (i := 0) H.blk
 have c1 := blk_cell (i := 1) H.blk
 simp at c1
 rw [huv] at c1
 have hpl := lt_of_block H.blk
 rw [hlv] at c0 HC
 clear hat hlv huv H
 unfold ptrTo
 go_enter Tryz.func144, Tryz.ntmps144
 go_upto_region 2 with (go_at_call 192; refine (unhide HC).mono ?_; rintro r y ⟨v', rfl, hown, hb⟩; obtain ⟨vad, vcap, rfl, _⟩ := hown.shape)
 have c1 := (hb.cell (p := ⟨p, 1, none⟩) hpl).trans c1
 have HO := hide (And.intro hown hb)
 clear hown hb c0
 go_wp2
 go_loopw [6, 7, 18] (fun _ _ i wr => i = .int .i64 0 ∧ wr = y) (fun _ _ _ _ => 0)
 case atStart => exact ⟨rfl, rfl⟩
 case round =>
  obtain ⟨rfl, rfl⟩ := hrel
  go_wp2
  go_ret
  exact ⟨_, rfl, (unhide HO).1, (unhide HO).2⟩
theorem storeImage_any {w : World} {s dp : Nat} {st : Mod.Stv} {lv uv : Value} (H : StAt w s dp st lv uv) (keep : Int) :
  Calls Tryz.prog 99 #[ptrTo s, .int .u64 keep] w fun r w' => ∃ v', r = .returned v' ∧ Owns w.heap.size w' v' st.dk.bytes ∧ Below w.heap.size w w' := by
 have c0 : w.cell? ⟨s, 0, none⟩ = some (ptrTo dp) := blk_cell (i := 0) H.blk
 have HI := hide (diskImage_any H.dk keep)
 clear H
 unfold ptrTo at *
 go_enter Tryz.func99, Tryz.ntmps99
 go_wp2_with (go_at_call 144; refine (unhide HI).mono ?_; rintro r y ⟨v', rfl, hown, hb⟩; replace hown := hide hown; replace hb := hide hb)
 go_ret
 exact ⟨_, rfl, unhide hown, unhide hb⟩
end Go.Proofs.YtamafdcnbcoegaaGreat
namespace Go.Proofs.YtamafdcnbcoegaaGreat
open Go.RowKit
set_option maxHeartbeats 1000000 in
theorem agImage_any {w : World} {p : Nat} {g : Nat → Nat} {tk : Nat} {wel fen : Bool} {free : List Nat} {sh : Nat → List (Nat × Value)} {st : Mod.Stv} {c : Av} (H : PaAt w p g tk wel fen free sh st c) (keep : Int) :
  Calls Tryz.prog 58 #[ptrTo p, .int .u64 keep] w fun r w' => ∃ v', r = .returned v' ∧ Owns w.heap.size w' v' st.dk.bytes ∧ Below w.heap.size w w' := by
 have c0 : w.cell? ⟨p, 0, none⟩ = some (ptrTo c.s) := by rw [blk_cell H.ks.blk, H.ks.a0]
 have HI := hide (storeImage_any H.stt keep)
 clear H
 unfold ptrTo at *
 go_enter Tryz.func58, Tryz.ntmps58
 go_wp2_with (go_at_call 99; refine (unhide HI).mono ?_; rintro r y ⟨v', rfl, hown, hb⟩; replace hown := hide hown; replace hb := hide hb)
 go_ret
 exact ⟨_, rfl, unhide hown, unhide hb⟩
set_option maxHeartbeats 1000000 in
theorem caImageOf {w : World} {v p : Nat} {g : Nat → Nat} {tk : Nat} {wel fen : Bool} {free : List Nat} {sh : Nat → List (Nat × Value)} {st : Mod.Stv} {c : Av} (hb : w.heap[v]? = some (.cells #[ptrTo p] 90 (0, 0))) (H : PaAt w p g tk wel fen free sh st c) (keep : Int) :
  Calls Tryz.prog 29 #[ptrTo v, .int .u64 keep] w fun r w' => ∃ v', r = .returned v' ∧ Owns w.heap.size w' v' st.dk.bytes ∧ Below w.heap.size w w' := by
 have c0 : w.cell? ⟨v, 0, none⟩ = some (ptrTo p) := blk_cell (i := 0) hb
 have HI := hide (agImage_any H keep)
 clear H hb
 unfold ptrTo at *
 go_enter Tryz.func29, Tryz.ntmps29
 go_wp2_with (go_at_call 58; refine (unhide HI).mono ?_; rintro r y ⟨v', rfl, hown, hb⟩; replace hown := hide hown; replace hb := hide hb)
 go_ret
 exact ⟨_, rfl, unhide hown, unhide hb⟩
set_option maxRecDepth 100000 in
set_option maxHeartbeats 4000000 in
theorem sinkDeliver_deaf {w : World} {p e : Nat} {logs : Nat → List ByteArray} {sh : Nat → List (Nat × Value)} {st : Mod.Stv} {c : Sv} (H : PkAt w p e logs sh st c) (hs : st.dk.dead = false) (bs : Value) (l : List UInt8) (hat : BytesAt w bs l) (hr : Wire.reads l = false) :
  Calls Tryz.prog 56 #[ptrTo p, bs] w fun r z => r = .returned (.tuple #[.slice none 0 0, .int .i64 1]) ∧ Below w.heap.size w z := by
 have c0 : w.cell? ⟨p, 0, none⟩ = some (ptrTo c.s) := by rw [blk_cell H.ks.blk, H.ks.a0]
 have hID := storeIsDead_any H.stt
 rw [hs] at hID
 have HID := hide hID
 have hDC := decode_any bs l w hat
 rw [hr] at hDC
 simp only [Bool.false_eq_true, if_false, zeroFr] at hDC
 have HDC := hide hDC
 clear H hID hDC
 unfold ptrTo at *
 go_enter Tryz.func56, Tryz.ntmps56
 go_wp2_with (first | (go_at_call 86; refine (unhide HID).mono ?_; rintro r y ⟨rfl, rfl⟩) | (go_at_call 54; refine (unhide HDC).mono ?_; rintro r y ⟨rfl, hb⟩; replace hb := hide hb))
 go_ret2
 exact ⟨rfl, (unhide hb).alloc (unhide hb).size _⟩
end Go.Proofs.YtamafdcnbcoegaaGreat
namespace Go.Proofs.YtamafdcnbcoegaaGreat
open Go.RowKit
def skWr (a : Mod.Sk) (k e : Int) (s q : Nat) (b : ByteArray) : Nat :=
 if k = 1 then (if e < a.epoch then 0 else hiW a e.toNat) else if k = 3 then (if e = a.epoch then (a.commits 3 a.epoch s q b).length else 0) else 0
def skW (a : Mod.Sk) (l : List UInt8) : Nat := if Wire.reads l = true then skWr a (Wire.kindOf l) (Wire.epochOf l) (Wire.streamOf l).toNat (Wire.seqOf l).toNat (Wire.bodyOf l) else 0
def skBadR (a : Mod.Sk) (k : Int) (s q : Nat) (b : ByteArray) (n : Nat) : Nat → List ByteArray := if k = 3 then (grown a s ((a.commits 3 a.epoch s q b).take (n - 1))).logs else a.logs
def skBad (a : Mod.Sk) (l : List UInt8) (n : Nat) : Nat → List ByteArray := skBadR a (Wire.kindOf l) (Wire.streamOf l).toNat (Wire.seqOf l).toNat (Wire.bodyOf l) n
theorem skW_yes {a : Mod.Sk} {l : List UInt8} (hr : Wire.reads l = true) {k : Int} {e s q : Nat} {b : ByteArray} (h1 : Wire.kindOf l = k) (h2 : Wire.epochOf l = e) (h3 : Wire.streamOf l = s) (h4 : Wire.seqOf l = q) (h5 : Wire.bodyOf l = b) :
  skW a l = skWr a k e s q b ∧ ∀ n, skBad a l n = skBadR a k s q b n := by
 unfold skW skBad
 rw [hr, h1, h2, h3, h4, h5]
 exact ⟨rfl, fun _ => rfl⟩
theorem skW_no {a : Mod.Sk} {l : List UInt8} (hr : Wire.reads l = false) : skW a l = 0 := by
 unfold skW
 rw [hr]
 rfl
theorem sinkDeliver_ok {op ct n : Nat} {w : World} {p : Nat} {a : Mod.Sk} {sh : Nat → List (Nat × Value)} {st : Mod.Stv} {c : Sv} (H : PkAt w p a.epoch a.logs sh st c) (hs : Alv op ct n st a.epoch a.logs) (hct : ct + 1000 < 18446744073709551616) (G : SkGood a) (M : SkMore a) (O : OnSh a.held sh) (bs : Value) (l : List UInt8) (hat : BytesAt w bs l) (hn : n = 0 ∨ skW a l < n) :
  Calls Tryz.prog 56 #[ptrTo p, bs] w fun r z => DlR (fun u x => SkIs2 op (ct + skW a l) (n - skW a l) u x p (skSays a l).2.1 c) w z (skSays a l).1 r (skSays a l).2.2 := by
 cases hr : Wire.reads l
 ·rw [skSays_no hr, skW_no hr]
  refine (sinkDeliver_deaf H hs.dead bs l hat hr).mono ?_
  rintro r z ⟨rfl, hb⟩
  exact ⟨_, [], w, rfl, skIs2_refl H hs O, hb, framesOut_none _ _⟩
 ·obtain ⟨k, e, s, q, b, h1, h2, h3, h4, h5, g1, g2, g3, g4⟩ := reads_parts hr
  rw [skSays_yes hr h1 h2 h3 h4 h5]
  rw [(skW_yes hr h1 h2 h3 h4 h5).1] at hn ⊢
  have hDec : ∀ y, Below w.heap.size w y → Calls Tryz.prog 54 #[bs] y fun r z => r = .returned (.tuple #[.agg #[.int .i64 k, .int .i64 e, .int .i64 s, .int .i64 q, .string b], .int .i64 0]) ∧ Below y.heap.size y z := fun y hy => by
   have := decode_any bs l y (hat.below hy)
   rw [hr] at this
   simp only [if_true, frVal, h1, h2, h3, h4, h5] at this
   exact this
  have HY := fun y (hy : Below w.heap.size w y) => H.far (far_below (E := fun _ => False) hy) (fun _ _ h => h)
  have n0 := H.ks.loglen (i := 0) (by omega)
  have n1 := H.ks.loglen (i := 1) (by omega)
  have n2 := H.ks.loglen (i := 2) (by omega)
  have hep := H.ks.ep
  have hbeh : ∀ {ct' n' : Nat} {a2 : Mod.Sk} {u v z : World}, SkIs2 op ct' n' v z p a2 c → Below u.heap.size u v → SkIs2 op ct' n' u z p a2 c := fun h hb => SkIs2.behind h hb
  unfold skReply
  unfold skWr at hn ⊢
  by_cases k1 : k = 1
  ·simp only [if_pos k1] at hn ⊢
   by_cases hlt : (e : Int) < a.epoch
   ·simp only [if_pos hlt] at hn ⊢
    refine sinkDeliverH_R (R := (fun u x => SkIs2 op (ct + 0) (n - 0) u x p a c)) H hs.dead bs (fun h hb => hbeh h hb) k e s q b k1 hDec (fun y hy => ?_)
    subst k1
    refine answerByH_okR (w := y) (R := (fun u x => SkIs2 op (ct + 0) (n - 0) u x p a c)) (fun h hb => hbeh h hb) 1 1 e s q b 5 a.epoch 0 0 ⟨#[]⟩ (fence_proper _ hep) (fun z hz => ?_)
    have hwz : Below w.heap.size w z := hy.trans (hz.mono hy.size)
    refine (answerHello_old (HY z hwz) e s q b (by omega)).mono ?_
    rintro r u ⟨rfl, hb⟩
    exact ⟨rfl, (skIs2_refl (HY z hwz) hs O).below hb⟩
   ·simp only [if_neg hlt] at hn ⊢
    have hE : (e : Int).toNat = e := by omega
    rw [hE] at hn ⊢
    refine sinkDeliverH_R (R := (fun u x => SkIs2 op (ct + hiW a e) (n - hiW a e) u x p (helloIt a e) c)) H hs.dead bs (fun h hb => hbeh h hb) k e s q b k1 hDec (fun y hy => ?_)
    subst k1
    refine answerByH_okR (w := y) (R := (fun u x => SkIs2 op (ct + hiW a e) (n - hiW a e) u x p (helloIt a e) c)) (fun h hb => hbeh h hb) 1 1 e s q b 2 e 0 0 (welB a) (wel_proper g1 n0 n1 n2) (fun z hz => ?_)
    have hwz : Below w.heap.size w z := hy.trans (hz.mono hy.size)
    exact answerHello_ok (HY z hwz) hs hct O e s q b (by omega) g1 hn
  ·simp only [if_neg k1] at hn ⊢
   by_cases k3 : k = 3
   ·simp only [if_pos k3] at hn ⊢
    by_cases he : (e : Int) = a.epoch
    ·simp only [if_pos he] at hn ⊢
     have he' : e = a.epoch := by omega
     subst k3
     rw [he] at hDec ⊢
     refine sinkDeliverD_R (R := (fun u x => SkIs2 op (ct + (a.commits 3 a.epoch s q b).length) (n - (a.commits 3 a.epoch s q b).length) u x p (skAfter a 3 a.epoch s q b) c)) H hs.dead bs (fun h hb => hbeh h hb) 3 a.epoch s q b rfl hDec (fun y hy => ?_)
     have hR := skGood_reply G 3 a.epoch s q b g2 (by omega)
     refine answerByD_okR (w := y) (R := (fun u x => SkIs2 op (ct + (a.commits 3 a.epoch s q b).length) (n - (a.commits 3 a.epoch s q b).length) u x p (skAfter a 3 a.epoch s q b) c)) (fun h hb => hbeh h hb) 3 3 a.epoch s q b 4 a.epoch s _ _ ?_ (fun z hz => ?_)
     ·have hepE : (skAfter a 3 a.epoch s q b).epoch = a.epoch := by
       unfold skAfter
       split
       ·exact holdIt_epoch _ _ _ _
       ·rfl
      have hG : SkGood (skAfter a 3 a.epoch s q b) := by
       unfold skReply at hR
       rw [if_neg (by omega), if_pos rfl, if_pos rfl] at hR
       exact hR
      have hc := count_len (a := skAfter a 3 a.epoch s q b) g2
      have hrm := hG.room
      have := ack_proper (a := skAfter a 3 a.epoch s q b) (s := s) (up := ((skAfter a 3 a.epoch s q b).logs s).length) hG.ep g2 (by omega)
      rw [hepE] at this
      exact this
     ·have hwz : Below w.heap.size w z := hy.trans (hz.mono hy.size)
      exact answerData_ok (HY z hwz) hs hct G M O s q g2 g3 b g4 hn
    ·simp only [if_neg he] at hn ⊢
     have hE : max (e : Int).toNat a.epoch = max e a.epoch := rfl
     rw [hE]
     subst k3
     refine sinkDeliverD_R (R := (fun u x => SkIs2 op (ct + 0) (n - 0) u x p a c)) H hs.dead bs (fun h hb => hbeh h hb) 3 e s q b rfl hDec (fun y hy => ?_)
     refine answerByD_okR (w := y) (R := (fun u x => SkIs2 op (ct + 0) (n - 0) u x p a c)) (fun h hb => hbeh h hb) 3 3 e s q b 5 (max e a.epoch : Nat) 0 0 ⟨#[]⟩ (fence_proper _ (by omega)) (fun z hz => ?_)
     have hwz : Below w.heap.size w z := hy.trans (hz.mono hy.size)
     refine (answerData_other (HY z hwz) e s q b (by omega)).mono ?_
     rintro r u ⟨rfl, hb⟩
     exact ⟨rfl, (skIs2_refl (HY z hwz) hs O).below hb⟩
   ·simp only [if_neg k3] at hn ⊢
    exact sinkDeliverN_R (R := fun u x => SkIs2 op (ct + 0) (n - 0) u x p a c) H hs.dead (skIs2_refl H hs O) bs k e s q b k1 k3 hDec
end Go.Proofs.YtamafdcnbcoegaaGreat
namespace Go.Proofs.YtamafdcnbcoegaaGreat
open Go.RowKit
set_option maxHeartbeats 1000000 in
theorem sinkLog_live {w : World} {p e : Nat} {logs : Nat → List ByteArray} {sh : Nat → List (Nat × Value)} {st : Mod.Stv} {c : Sv} (H : PkAt w p e logs sh st c) (hs : st.dk.dead = false) (i : Int) :
  Calls Tryz.prog 60 #[ptrTo p, .int .i64 i] w fun r w' =>
   ∃ lv, r = .returned lv ∧ w'.ownsRow w.heap.size 9 1 lv (if 0 ≤ i ∧ i < 3 then logs i.toNat else []).length (strs (if 0 ≤ i ∧ i < 3 then logs i.toNat else [])) ∧ Below w.heap.size w w' := by
 have c0 : w.cell? ⟨p, 0, none⟩ = some (ptrTo c.s) := by rw [blk_cell H.ks.blk, H.ks.a0]
 have hID := storeIsDead_any H.stt
 rw [hs] at hID
 have HID := hide hID
 by_cases h : 0 ≤ i ∧ i < 3
 ·rw [if_pos h]
  obtain ⟨n, rfl⟩ := Int.eq_ofNat_of_zero_le h.1
  obtain ⟨h0, h3⟩ := h
  have hn3 : n < 3 := by omega
  obtain ⟨ad, cap, hlv, clog⟩ := H.ks.logc hn3
  have hrow := H.ks.lgs n hn3
  rw [hlv] at hrow
  have HCL := hide (cloneStrs_any hrow (by have := H.ks.loglen hn3; omega))
  have hst : Wire.isStr (n : Int) = true := by simp [Wire.isStr]; omega
  have hIS := isStream_any (n : Int) w
  rw [hst] at hIS
  have HIS := hide hIS
  have hnn : ((n : Int)).toNat = n := by omega
  rw [hnn]
  obtain ⟨m, hm⟩ : ∃ m, m = (logs n).length := ⟨_, rfl⟩
  obtain ⟨xs, hxs⟩ : ∃ xs, xs = strs (logs n) := ⟨_, rfl⟩
  rw [← hm, ← hxs] at HCL ⊢
  rw [← hm] at clog
  clear H hID hrow hlv hIS hst hnn hm hxs
  unfold ptrTo at *
  go_enter Tryz.func60, Tryz.ntmps60
  go_wp2_with (first | (go_at_call 87; refine (unhide HIS).mono ?_; rintro r y ⟨rfl, hyw⟩; obtain rfl : w = y := hyw.symm) | (go_at_call 86; refine (unhide HID).mono ?_; rintro r y ⟨rfl, hyw⟩; obtain rfl : w = y := hyw.symm) | (go_at_call 100; refine (unhide HCL).mono ?_; rintro r y ⟨v', rfl, ho, hb⟩; replace ho := hide ho; replace hb := hide hb))
  go_ret
  exact ⟨v', rfl, unhide ho, unhide hb⟩
 ·rw [if_neg h]
  have hst : Wire.isStr i = false := by
   cases hc : Wire.isStr i
   ·rfl
   ·simp [Wire.isStr] at hc; omega
  have hIS := isStream_any i w
  rw [hst] at hIS
  have HIS := hide hIS
  clear H hID hIS hst h
  unfold ptrTo at *
  go_enter Tryz.func60, Tryz.ntmps60
  go_wp2_with (go_at_call 87; refine (unhide HIS).mono ?_; rintro r y ⟨rfl, hyw⟩; obtain rfl : w = y := hyw.symm)
  go_ret
  exact ⟨_, rfl, World.ownsRow_nil _ _ _ _, Below.refl _ _⟩
end Go.Proofs.YtamafdcnbcoegaaGreat
namespace Go.Proofs.YtamafdcnbcoegaaGreat
open Go.RowKit
def skLogs (a : Mod.Sk) (i : Int) : List ByteArray := if 0 ≤ i ∧ i < 3 then a.logs i.toNat else []
end Go.Proofs.YtamafdcnbcoegaaGreat
namespace Go.Proofs.YtamafdcnbcoegaaGreat
open Go.RowKit
def CxAt (op ct n : Nat) (w : World) (v : Nat) (a : Mod.Sk) (U : Nat → Prop) : Prop :=
 ∃ p sh st c, w.heap[v]? = some (.cells #[ptrTo p] 93 (0, 0)) ∧ PkAt w p a.epoch a.logs sh st c ∧ Alv op ct n st a.epoch a.logs ∧ OnSh a.held sh ∧ SkMore a ∧ U = fun k => k = v ∨ PkU p c k
section
variable {op ct n : Nat} {w w' : World} {v : Nat} {a : Mod.Sk} {U : Nat → Prop} {e : Nat} {lg : Nat → List ByteArray}
theorem cxAt_lt (h : CxAt op ct n w v a U) : ∀ k, U k → k < w.heap.size := by
 obtain ⟨p, sh, st, c, hb, H, _, _, _, rfl⟩ := h
 rintro k (rfl | hk)
 ·exact lt_of_block hb
 ·exact H.lt k hk
theorem cxAt_far {E : Nat → Prop} (h : CxAt op ct n w v a U) (hf : Far E w w') (hE : ∀ k, U k → ¬ E k) : CxAt op ct n w' v a U := by
 obtain ⟨p, sh, st, c, hb, H, h1, h2, h3, rfl⟩ := h
 exact ⟨p, sh, st, c, hf.blk hb (hE v (.inl rfl)), H.far hf (fun k hk => hE k (.inr hk)), h1, h2, h3, rfl⟩
set_option maxHeartbeats 1000000 in
theorem cxDeliver_ok (bs : Value) (l : List UInt8) (h : CxAt op ct n w v a U) (hct : ct + 1000 < 18446744073709551616) (G : SkGood a) (hat : BytesAt w bs l) (hn : n = 0 ∨ skW a l < n) :
  Calls Tryz.prog 27 #[ptrTo v, bs] w fun r w' =>
   ∃ lv fs U', r = .returned (.tuple #[lv, .int .i64 (skSays a l).1]) ∧ FramesOut w.heap.size w' lv fs (skSays a l).2.2 U' ∧ CxAt op (ct + skW a l) (n - skW a l) w' v (skSays a l).2.1 U' ∧ Far U w w' ∧ ∀ k, U' k → U k ∨ w.heap.size ≤ k := by
 obtain ⟨p, sh, st, c, hb, H, hs, O, M, rfl⟩ := h
 have c0 : w.cell? ⟨v, 0, none⟩ = some (ptrTo p) := blk_cell (i := 0) hb
 have HD := hide (sinkDeliver_ok H hs hct G M O bs l hat hn)
 have hM := skMore_says M l
 obtain ⟨a2, ha2⟩ : ∃ a2, a2 = (skSays a l).2.1 := ⟨_, rfl⟩
 obtain ⟨er, her⟩ : ∃ er, er = (skSays a l).1 := ⟨_, rfl⟩
 obtain ⟨Fl, hFl⟩ : ∃ Fl, Fl = (skSays a l).2.2 := ⟨_, rfl⟩
 rw [← ha2, ← her, ← hFl] at HD ⊢
 rw [← ha2] at hM
 generalize ct + skW a l = ct' at HD ⊢
 generalize n - skW a l = n' at HD ⊢
 have hnv := cs_not H hb
 have HH := hide (And.intro hb hM)
 clear H hb hM ha2 her hFl hat hn hs hct
 unfold ptrTo at c0 HD
 show Calls Tryz.prog _ #[.pointer (some ⟨v, 0, none⟩), bs] w _
 go_enter Tryz.func27, Tryz.ntmps27
 go_wp2_with (go_at_call 56; refine (unhide HD).mono ?_; rintro r y ⟨lv, fs, x, rfl, k1, k2, k3⟩; replace k1 := hide k1; replace k2 := hide k2; replace k3 := hide k3)
 go_ret2
 obtain ⟨sh2, st2, ⟨c2, K, F, N, t1, t2⟩, hs2, O2⟩ := unhide k1
 obtain ⟨hb, hM⟩ := unhide HH
 have hbx := F.blk hb hnv
 have hB := unhide k2
 refine ⟨lv, fs, fun k => k = v ∨ PkU p c2 k, rfl, (unhide k3).up F.size ?_, ⟨p, sh2, st2, c2, (hB.block _ (lt_of_block hbx)).trans hbx, K.far (far_below (E := fun _ => False) hB) (fun _ _ h => h), hs2, O2, hM, rfl⟩, ?_, ?_⟩
 ·rintro k (rfl | hk)
  ·exact lt_of_block hbx
  ·exact K.lt k hk
 ·exact (F.mono (fun k _ h => .inr h)).trans (far_below (E := fun _ => False) hB) (fun _ _ h => h.elim)
 ·rintro k (rfl | hk)
  ·exact .inl (.inl rfl)
  ·exact (N k hk).imp .inr id
theorem cxEpoch (h : CxAt op ct n w v a U) : Calls Tryz.prog 42 #[ptrTo v] w fun r w' => r = .returned (.int .i64 a.epoch) ∧ w' = w := by
 obtain ⟨p, sh, st, c, hb, H, hs, O, M, rfl⟩ := h
 have c0 : w.cell? ⟨v, 0, none⟩ = some (ptrTo p) := blk_cell (i := 0) hb
 have HD := hide (sinkEpoch_any H)
 clear H hb
 unfold ptrTo at *
 go_enter Tryz.func42, Tryz.ntmps42
 go_wp2_with (go_at_call 67; refine (unhide HD).mono ?_; rintro r y ⟨rfl, rfl⟩)
 go_ret
 exact ⟨rfl, rfl⟩
theorem cxLog (i : Int) (h : CxAt op ct n w v a U) : Calls Tryz.prog 32 #[ptrTo v, .int .i64 i] w fun r w' =>
   ∃ lv, r = .returned lv ∧ w'.ownsRow w.heap.size 9 1 lv (skLogs a i).length (strs (skLogs a i)) ∧ Below w.heap.size w w' := by
 obtain ⟨p, sh, st, c, hb, H, hs, O, M, rfl⟩ := h
 have c0 : w.cell? ⟨v, 0, none⟩ = some (ptrTo p) := blk_cell (i := 0) hb
 have HD := hide (sinkLog_live H hs.dead i)
 unfold skLogs
 obtain ⟨xs, hxs⟩ : ∃ xs, xs = if 0 ≤ i ∧ i < 3 then a.logs i.toNat else [] := ⟨_, rfl⟩
 rw [← hxs] at HD ⊢
 clear H hb hxs
 unfold ptrTo at *
 go_enter Tryz.func32, Tryz.ntmps32
 go_wp2_with (go_at_call 60; refine (unhide HD).mono ?_; rintro r y ⟨lv, rfl, k1, k2⟩; replace k1 := hide k1; replace k2 := hide k2)
 go_ret
 exact ⟨lv, rfl, unhide k1, unhide k2⟩
end
end Go.Proofs.YtamafdcnbcoegaaGreat
namespace Go.Proofs.YtamafdcnbcoegaaGreat
open Go.RowKit
theorem alv_opened {L : List UInt8} {h : Mod.Hd} {at' : Nat} {rs : List Mod.Rc} {lg : Nat → List ByteArray} (ho : Mod.openSt L = some (h, at', rs)) (hb : h.b = 0) (hd : h.d = 0) (hl : Mod.skLd rs 0 (fun _ => []) = some lg) (hlen : L.length = 7808) :
  Alv (h.o + 1) 1 0 (newStv L h at') h.a lg :=
 ⟨rfl, rfl, rfl, Nat.le_refl _, Mod.skDisk_opened (a := { epoch := h.a, logs := lg, held := [] }) ho hb hd hl hlen⟩
theorem skMore_nil (e : Nat) (lg : Nat → List ByteArray) : SkMore { epoch := e, logs := lg, held := [] } := ⟨fun h hh => by simp at hh, fun _ s _ b hb => by simp at hb⟩
set_option maxHeartbeats 1000000 in
theorem cxOpen_of {w : World} (bs : Value) (L : List UInt8) (hat : BytesAt w bs L) (hlen : L.length = 7808) {h : Mod.Hd} {at' : Nat} {rs : List Mod.Rc} {lg : Nat → List ByteArray} (ho : Mod.openSt L = some (h, at', rs)) (hb0 : h.b = 0) (hd0 : h.d = 0) (hl : Mod.skLd rs 0 (fun _ => []) = some lg) :
  Calls Tryz.prog 38 #[bs] w fun r w' =>
   ∃ v U, r = .returned (.tuple #[ptrTo v, .int .i64 0]) ∧ CxAt (h.o + 1) 1 0 w' v { epoch := h.a, logs := lg, held := [] } U ∧ Below w.heap.size w w' ∧ ∀ k, U k → w.heap.size ≤ k := by
 have HD : Hid (Calls Tryz.prog 65 #[bs] w fun r w' => ∃ p c, r = .returned (.tuple #[ptrTo p, .int .i64 0]) ∧ PkAt w' p h.a lg (fun _ => []) (newStv L h at') c ∧ Below w.heap.size w w' ∧ ∀ k, PkU p c k → w.heap.size ≤ k) := by
  refine (sinkOpen_some w bs L hat hlen ho).mono ?_
  rintro r y (⟨h1 | h1, _⟩ | ⟨_, _, lg2, p, c, e1, rfl, k1, k2, k3⟩)
  ·exact absurd ⟨hb0, hd0⟩ h1
  ·rw [hl] at h1; cases h1
  ·rw [hl] at e1
   injection e1 with e1
   subst e1
   exact ⟨p, c, rfl, k1, k2, k3⟩
 have HA := hide (alv_opened ho hb0 hd0 hl hlen)
 clear hat ho hb0 hd0 hl hlen
 generalize newStv L h at' = st at HD HA
 generalize h.o + 1 = op1 at HA ⊢
 generalize h.a = ep at HD HA ⊢
 unfold ptrTo at *
 go_enter Tryz.func38, Tryz.ntmps38
 go_wp2_with (go_at_call 65; refine (unhide HD).mono ?_; rintro r y ⟨p, c, rfl, K, hb, hU⟩; replace K := hide K; replace hb := hide hb; replace hU := hide hU)
 go_ret2
 have hb := unhide hb
 refine ⟨y.heap.size, _, rfl, ⟨p, _, st, c, heap_alloc_new _ _, (unhide K).far (far_below (E := fun _ => False) ((Below.refl _ _).alloc (Nat.le_refl _) _)) (fun _ _ h => h), unhide HA, onSh_nil, skMore_nil _ _, rfl⟩, hb.alloc hb.size _, ?_⟩
 rintro k (rfl | hk)
 ·exact hb.size
 ·exact (unhide hU) k hk
theorem cxOpen_zero {w : World} (bs : Value) (hat : BytesAt w bs (List.replicate 7808 0)) :
  Calls Tryz.prog 38 #[bs] w fun r w' =>
   ∃ v U, r = .returned (.tuple #[ptrTo v, .int .i64 0]) ∧ CxAt 1 1 0 w' v { epoch := 0, logs := fun _ => [], held := [] } U ∧ Below w.heap.size w w' ∧ ∀ k, U k → w.heap.size ≤ k := by
 have ho := Mod.openSt_nought 122 (by omega)
 refine cxOpen_of bs _ hat (by rw [List.length_replicate]) ho rfl rfl ?_
 have : ((List.range (122 - 2)).map fun _ => Mod.rc0) = List.replicate 120 Mod.rc0 := by rw [List.map_const']; simp
 rw [this]
 exact Mod.skLd_zero 120 0 _
end Go.Proofs.YtamafdcnbcoegaaGreat
namespace Go.Proofs.YtamafdcnbcoegaaGreat
open Go.RowKit
theorem takeIt_count (a : Mod.Sk) {s : Nat} (hs : s < 3) (got : List ByteArray) : (takeIt a s got).count = a.count + got.length ∧ (takeIt a s got).epoch = a.epoch := by
 refine ⟨?_, rfl⟩
 obtain rfl | rfl | rfl : s = 0 ∨ s = 1 ∨ s = 2 := by omega
 all_goals
  simp [takeIt, grown, Mod.Sk.forget, Mod.Sk.count]
  omega
theorem skAfter_count (a : Mod.Sk) {s : Nat} (hs : s < 3) (q : Nat) (b : ByteArray) : (skAfter a 3 a.epoch s q b).count = a.count + (a.commits 3 a.epoch s q b).length ∧ (skAfter a 3 a.epoch s q b).epoch = a.epoch := by
 unfold skAfter
 split
 ·rename_i h
  rw [h]
  refine ⟨?_, holdIt_epoch _ _ _ _⟩
  unfold Mod.Sk.count
  rw [holdIt_logs]
  rfl
 ·exact takeIt_count a hs _
theorem skW_says (a : Mod.Sk) (l : List UInt8) : a.count + a.epoch + skW a l ≤ (skSays a l).2.1.count + (skSays a l).2.1.epoch := by
 cases hr : Wire.reads l
 ·rw [skSays_no hr, skW_no hr]
  exact Nat.le_refl _
 ·obtain ⟨k, e, s, q, b, h1, h2, h3, h4, h5, g1, g2, g3, g4⟩ := reads_parts hr
  rw [skSays_yes hr h1 h2 h3 h4 h5, (skW_yes hr h1 h2 h3 h4 h5).1]
  unfold skReply skWr
  by_cases k1 : k = 1
  ·simp only [if_pos k1]
   by_cases hlt : (e : Int) < a.epoch
   ·simp only [if_pos hlt]
    exact Nat.le_refl _
   ·simp only [if_neg hlt]
    have hE : (e : Int).toNat = e := by omega
    rw [hE]
    have h1 : (helloIt a e).epoch = e := rfl
    have h2 : (helloIt a e).count = a.count := rfl
    rw [h1, h2]
    unfold hiW
    split <;> omega
  ·simp only [if_neg k1]
   by_cases k3 : k = 3
   ·simp only [if_pos k3]
    by_cases he : (e : Int) = a.epoch
    ·simp only [if_pos he]
     subst k3
     rw [he]
     obtain ⟨c1, c2⟩ := skAfter_count a g2 q b
     rw [c1, c2]
     omega
    ·simp only [if_neg he]
     exact Nat.le_refl _
   ·simp only [if_neg k3]
    exact Nat.le_refl _
def CsY (w : World) (v : Nat) (a : Mod.Sk) (U : Nat → Prop) : Prop := ∃ ct, CxAt 1 ct 0 w v a U ∧ ct ≤ 1 + (a.count + a.epoch)
theorem csY_deliver {w : World} {v : Nat} {a : Mod.Sk} {U : Nat → Prop} (bs : Value) (l : List UInt8) (h : CsY w v a U) (G : SkGood a) (hat : BytesAt w bs l) :
  Calls Tryz.prog 27 #[ptrTo v, bs] w fun r w' =>
   ∃ lv fs U', r = .returned (.tuple #[lv, .int .i64 (skSays a l).1]) ∧ FramesOut w.heap.size w' lv fs (skSays a l).2.2 U' ∧ CsY w' v (skSays a l).2.1 U' ∧ Far U w w' ∧ ∀ k, U' k → U k ∨ w.heap.size ≤ k := by
 obtain ⟨ct, h1, h2⟩ := h
 have g1 := G.room
 have g2 := G.ep
 have hw := skW_says a l
 refine (cxDeliver_ok bs l h1 (by omega) G hat (.inl rfl)).mono ?_
 rintro r y ⟨lv, fs, U', rfl, m1, m2, m3, m4⟩
 rw [Nat.zero_sub] at m2
 exact ⟨lv, fs, U', rfl, m1, ⟨_, m2, by omega⟩, m3, m4⟩
def theSinkY : SinkC where
 At := CsY
 lt := fun ⟨_, h, _⟩ => cxAt_lt h
 far := fun ⟨ct, h, hc⟩ hF hE => ⟨ct, cxAt_far h hF hE, hc⟩
 deliver := csY_deliver
 epoch := fun ⟨_, h, _⟩ => (cxEpoch h).mono fun _ _ ⟨e, e2⟩ => ⟨e, by rw [e2]; exact Below.refl _ _⟩
 log := fun i ⟨_, h, _⟩ _ => cxLog i h
 opened := fun bs hat => (cxOpen_zero bs hat).mono fun _ _ ⟨v, U, e, h, hb, hn⟩ => ⟨v, U, e, ⟨1, h, by omega⟩, hb, hn⟩
end Go.Proofs.YtamafdcnbcoegaaGreat
namespace Go.Proofs.YtamafdcnbcoegaaGreat
namespace Mod
abbrev Pe := Nat × ByteArray × Nat
def insP : List Pe → Pe → List Pe
 | [], e => [e]
 | y :: r, e => if e.1 = y.1 then e :: r else if e.1 < y.1 then e :: y :: r else y :: insP r e
structure Ld where
 free : List Nat
 sh : Nat → List Pe
def ldStep (g : Nat → Nat) (x : Nat) (r : Rc) (l : Ld) : Option Ld :=
 if r.q ≤ g r.s then some { l with free := l.free ++ [x] }
 else if ((l.sh r.s).map (·.1)).contains r.q = true then none
 else some { l with sh := fun i => if i = r.s then insP (l.sh r.s) (r.q, r.b, x) else l.sh i }
def ldAll (g : Nat → Nat) : List Rc → Nat → Ld → Option Ld
 | [], _, l => some l
 | r :: rs, x, l => match ldStep g x r l with
  | none => none
  | some l' => ldAll g rs (x + 1) l'
def lastP (l : List Pe) (b : Nat) : Nat := max (match l.getLast? with | none => 0 | some x => x.1) b
def okP (l : List Pe) (b : Nat) : Bool := decide (lastP l b ≤ 1073741824) && decide (lastP l b = b + l.length)
def ld0 : Ld := ⟨[], fun _ => []⟩
def agOf (op : Nat) (g : Nat → Nat) (l : Ld) : Ag := { epoch := op + 1, ticks := 0, welcome := false, fenced := false, fl := fun i => if i < 3 then { base := g i, kept := (l.sh i).map fun e => (e.2.1, 0), held := [] } else { base := 0, kept := [], held := [] } }
def agLoad (L : List UInt8) : Option Ag :=
 match openSt L with
 | none => none
 | some (h, _, rs) => match ldAll h.num rs 0 ld0 with
  | none => none
  | some l => if okP (l.sh 0) (h.num 0) = true ∧ okP (l.sh 1) (h.num 1) = true ∧ okP (l.sh 2) (h.num 2) = true then some (agOf h.o h.num l) else none
def keptP : Nat → List (ByteArray × Nat) → List Nat → List Pe
 | b, x :: r, q :: qs => (b + 1, x.1, q) :: keptP (b + 1) r qs
 | _, _, _ => []
theorem keptP_length : ∀ (b : Nat) (k : List (ByteArray × Nat)) (p : List Nat), p.length = k.length → (keptP b k p).length = k.length
 | _, [], [], _ => rfl
 | b, _ :: r, _ :: qs, h => by rw [keptP, List.length_cons, keptP_length (b + 1) r qs (by simpa using h), List.length_cons]
theorem keptP_get : ∀ (b : Nat) (k : List (ByteArray × Nat)) (p : List Nat) (j : Nat) (e : Pe), (keptP b k p)[j]? = some e → e.1 = b + 1 + j ∧ (∃ t, k[j]? = some (e.2.1, t)) ∧ p[j]? = some e.2.2
 | _, [], _, j, e, h => by simp [keptP] at h
 | _, _ :: _, [], j, e, h => by simp [keptP] at h
 | b, x :: r, q :: qs, 0, e, h => by
  simp [keptP] at h
  subst h
  exact ⟨rfl, ⟨x.2, rfl⟩, rfl⟩
 | b, x :: r, q :: qs, j + 1, e, h => by
  rw [keptP, List.getElem?_cons_succ] at h
  obtain ⟨h1, h2, h3⟩ := keptP_get (b + 1) r qs j e h
  exact ⟨by omega, h2, h3⟩
theorem keptP_gt : ∀ (b : Nat) (k : List (ByteArray × Nat)) (p : List Nat), ∀ e ∈ keptP b k p, b < e.1
 | _, [], _, e, h => by simp [keptP] at h
 | _, _ :: _, [], e, h => by simp [keptP] at h
 | b, x :: r, q :: qs, e, h => by
  rw [keptP] at h
  cases h with
  | head => show b < b + 1; omega
  | tail _ h => have := keptP_gt (b + 1) r qs e h; omega
theorem keptP_sorted : ∀ (b : Nat) (k : List (ByteArray × Nat)) (p : List Nat), (keptP b k p).Pairwise (fun x y => x.1 < y.1)
 | _, [], _ => by simp [keptP]
 | _, _ :: _, [] => by simp [keptP]
 | b, x :: r, q :: qs => by
  rw [keptP, List.pairwise_cons]
  exact ⟨fun e he => keptP_gt (b + 1) r qs e he, keptP_sorted (b + 1) r qs⟩
theorem keptP_places : ∀ (b : Nat) (k : List (ByteArray × Nat)) (p : List Nat), p.length = k.length → (keptP b k p).map (·.2.2) = p
 | _, [], [], _ => rfl
 | b, _ :: r, q :: qs, h => by rw [keptP, List.map_cons, keptP_places (b + 1) r qs (by simpa using h)]
theorem keptP_bodies : ∀ (b : Nat) (k : List (ByteArray × Nat)) (p : List Nat), p.length = k.length → (keptP b k p).map (·.2.1) = k.map (·.1)
 | _, [], [], _ => rfl
 | b, _ :: r, q :: qs, h => by rw [keptP, List.map_cons, keptP_bodies (b + 1) r qs (by simpa using h)]; rfl
theorem keptP_lastP (b : Nat) (k : List (ByteArray × Nat)) (p : List Nat) (h : p.length = k.length) : lastP (keptP b k p) b = b + k.length := by
 have hl := keptP_length b k p h
 unfold lastP
 rw [List.getLast?_eq_getElem?]
 cases hg : (keptP b k p)[(keptP b k p).length - 1]? with
 | none =>
  have := List.getElem?_eq_none_iff.1 hg
  simp only
  omega
 | some e =>
  have h1 := (keptP_get _ _ _ _ _ hg).1
  have h2 := (List.getElem?_eq_some_iff.1 hg).1
  simp only
  omega
theorem insP_front {l : List Pe} {e : Pe} (h : ∀ y ∈ l, e.1 < y.1) : insP l e = e :: l := by
 cases l with
 | nil => rfl
 | cons y r =>
  have := h y (.head _)
  rw [insP, if_neg (by omega), if_pos this]
theorem insP_filter {p p' : Pe → Bool} {e : Pe} : ∀ (l : List Pe), l.Pairwise (fun x y => x.1 < y.1) → e ∈ l → p e = false → p' e = true → (∀ y ∈ l, y.1 ≠ e.1 → p' y = p y) → l.filter p' = insP (l.filter p) e
 | [], _, h, _, _, _ => by cases h
 | y :: r, hs, hm, h1, h2, h3 => by
  rw [List.pairwise_cons] at hs
  by_cases hy : y.1 = e.1
  ·have hye : y = e := by
    cases hm with
    | head => rfl
    | tail _ hm => have := hs.1 e hm; omega
   subst hye
   have hr : r.filter p' = r.filter p := List.filter_congr fun z hz => h3 z (.tail _ hz) (by have := hs.1 z hz; omega)
   rw [List.filter_cons_of_pos h2, List.filter_cons_of_neg (by simp [h1]), hr]
   exact (insP_front fun z hz => hs.1 z (List.mem_filter.1 hz).1).symm
  ·have hm' : e ∈ r := by
    cases hm with
    | head => exact absurd rfl hy
    | tail _ hm => exact hm
   have hlt := hs.1 e hm'
   have ih := insP_filter r hs.2 hm' h1 h2 (fun z hz => h3 z (.tail _ hz))
   have hpy := h3 y (.head _) hy
   cases hp : p y with
   | true =>
    rw [List.filter_cons_of_pos (by rw [hpy, hp]), List.filter_cons_of_pos hp, ih, insP, if_neg (by omega), if_neg (by omega)]
   | false =>
    rw [List.filter_cons_of_neg (by rw [hpy, hp]; simp), List.filter_cons_of_neg (by simp [hp]), ih]
structure Places (a : Ag) (free : List Nat) (pl : Nat → List Nat) : Prop where
 pn : ∀ i, i < 3 → (pl i).length = (a.fl i).kept.length
 nd : (free ++ pl 0 ++ pl 1 ++ pl 2).Nodup
 lt : ∀ x ∈ free ++ pl 0 ++ pl 1 ++ pl 2, x < 24
 sum : free.length + a.room = 24
structure AgDisk (L : List UInt8) (op ct hd : Nat) (a : Ag) (free : List Nat) (pl : Nat → List Nat) : Prop where
 ok : DiskOk L op ct hd (fun i => (a.fl i).base) 26
 rcs : ∃ rc : Nat → Rc, (∀ x, x < 24 → RecAt (sec L (2 + x)) op (rc x)) ∧ (∀ i, i < 3 → ∀ e ∈ keptP (a.fl i).base (a.fl i).kept (pl i), rc e.2.2 = ⟨i, e.1, e.2.1⟩) ∧ ∀ x ∈ free, (rc x).s < 3 ∧ (rc x).q ≤ (a.fl (rc x).s).base
theorem nodupLt : ∀ (n : Nat) (l : List Nat), l.Nodup → (∀ x ∈ l, x < n) → l.length ≤ n
 | 0, [], _, _ => Nat.le_refl _
 | 0, x :: l, _, h => by have := h x (.head _); omega
 | n + 1, l, hn, h => by
  by_cases hm : n ∈ l
  ·have h1 := nodupLt n (l.erase n) (hn.erase n) (fun x hx => by
    have h2 := h x (List.mem_of_mem_erase hx)
    have h3 : x ≠ n := fun e => by
     subst e
     exact (List.Nodup.not_mem_erase hn) hx
    omega)
   have := List.length_erase_of_mem hm
   omega
  ·have := nodupLt n l hn (fun x hx => by
    have h2 := h x hx
    have h3 : x ≠ n := fun e => hm (by rw [← e]; exact hx)
    omega)
   omega
theorem all_places {l : List Nat} {n : Nat} (hn : l.Nodup) (hl : ∀ x ∈ l, x < n) (hc : l.length = n) : ∀ x, x < n → x ∈ l := by
 intro x hx
 apply Classical.byContradiction
 intro hm
 have := nodupLt n (x :: l) (List.nodup_cons.2 ⟨hm, hn⟩) (fun y hy => by
  cases hy with
  | head => exact hx
  | tail _ hy => exact hl y hy)
 simp at this
 omega
theorem nodup_ix {l : List Nat} (hn : l.Nodup) {i j x : Nat} (hi : l[i]? = some x) (hj : l[j]? = some x) : i = j := by
 obtain ⟨h1, e1⟩ := List.getElem?_eq_some_iff.1 hi
 obtain ⟨h2, e2⟩ := List.getElem?_eq_some_iff.1 hj
 rw [List.Nodup, List.pairwise_iff_getElem] at hn
 rcases Nat.lt_trichotomy i j with h | h | h
 ·exact absurd (e1.trans e2.symm) (hn i j h1 h2 h)
 ·exact h
 ·exact absurd (e2.trans e1.symm) (hn j i h2 h1 h)
theorem Places.all {a : Ag} {free : List Nat} {pl : Nat → List Nat} (P : Places a free pl) : ∀ x, x < 24 → x ∈ free ∨ ∃ i, i < 3 ∧ x ∈ pl i := by
 have h0 := P.pn 0 (by omega)
 have h1 := P.pn 1 (by omega)
 have h2 := P.pn 2 (by omega)
 have hs := P.sum
 unfold Ag.room at hs
 intro x hx
 have := all_places P.nd P.lt (by simp; omega) x hx
 simp at this
 rcases this with h | h | h | h
 ·exact .inl h
 ·exact .inr ⟨0, by omega, h⟩
 ·exact .inr ⟨1, by omega, h⟩
 ·exact .inr ⟨2, by omega, h⟩
theorem Places.apart {a : Ag} {free : List Nat} {pl : Nat → List Nat} (P : Places a free pl) : (∀ i, i < 3 → (pl i).Nodup) ∧ (∀ x ∈ free, ∀ i, i < 3 → x ∉ pl i) ∧ ∀ i j, i < 3 → j < 3 → i ≠ j → ∀ x ∈ pl i, x ∉ pl j := by
 have hnd := P.nd
 rw [List.nodup_append, List.nodup_append, List.nodup_append] at hnd
 obtain ⟨⟨⟨n0, n1, n2⟩, n3, n4⟩, n5, n6⟩ := hnd
 refine ⟨fun i hi => ?_, fun x hx i hi hm => ?_, fun i j hi hj hne x hx hm => ?_⟩
 ·obtain rfl | rfl | rfl : i = 0 ∨ i = 1 ∨ i = 2 := by omega
  ·exact n1
  ·exact n3
  ·exact n5
 ·obtain rfl | rfl | rfl : i = 0 ∨ i = 1 ∨ i = 2 := by omega
  ·exact n2 x hx x hm rfl
  ·exact n4 x (by simp [hx]) x hm rfl
  ·exact n6 x (by simp [hx]) x hm rfl
 ·obtain rfl | rfl | rfl : i = 0 ∨ i = 1 ∨ i = 2 := by omega
  all_goals obtain rfl | rfl | rfl : j = 0 ∨ j = 1 ∨ j = 2 := by omega
  ·exact hne rfl
  ·exact n4 x (by simp [hx]) x hm rfl
  ·exact n6 x (by simp [hx]) x hm rfl
  ·exact n4 x (by simp [hm]) x hx rfl
  ·exact hne rfl
  ·exact n6 x (by simp [hx]) x hm rfl
  ·exact n6 x (by simp [hm]) x hx rfl
  ·exact n6 x (by simp [hm]) x hx rfl
  ·exact hne rfl
theorem ldAll_disk {a : Ag} {free : List Nat} {pl : Nat → List Nat} (P : Places a free pl) (rc : Nat → Rc) (hk : ∀ i, i < 3 → ∀ e ∈ keptP (a.fl i).base (a.fl i).kept (pl i), rc e.2.2 = ⟨i, e.1, e.2.1⟩) (hf : ∀ x ∈ free, (rc x).q ≤ (a.fl (rc x).s).base) :
  ∀ (n x : Nat) (l : Ld), x + n = 24 → (∀ i, i < 3 → l.sh i = (keptP (a.fl i).base (a.fl i).kept (pl i)).filter fun e => decide (e.2.2 < x)) →
   ∃ l', ldAll (fun i => (a.fl i).base) ((List.range n).map fun j => rc (x + j)) x l = some l' ∧ ∀ i, i < 3 → l'.sh i = keptP (a.fl i).base (a.fl i).kept (pl i) := by
 intro n
 induction n with
 | zero =>
  intro x l hx hl
  refine ⟨l, rfl, fun i hi => ?_⟩
  rw [hl i hi]
  refine List.filter_eq_self.2 fun e he => ?_
  have hp : e.2.2 ∈ pl i := by
   rw [← keptP_places (a.fl i).base (a.fl i).kept (pl i) (P.pn i hi)]
   exact List.mem_map_of_mem he
  have := P.lt e.2.2 (by
   obtain rfl | rfl | rfl : i = 0 ∨ i = 1 ∨ i = 2 := by omega
   all_goals simp [hp])
  simp
  omega
 | succ n ih =>
  intro x l hx hl
  obtain ⟨p1, p2, p3⟩ := P.apart
  rw [List.range_succ_eq_map, List.map_cons, List.map_map]
  have hmap : (List.range n).map ((fun j => rc (x + j)) ∘ Nat.succ) = (List.range n).map fun j => rc (x + 1 + j) := by
   apply List.map_congr_left
   intro j _
   show rc (x + (j + 1)) = rc (x + 1 + j)
   congr 1
   omega
  rw [hmap, Nat.add_zero]
  unfold ldAll
  rcases P.all x (by omega) with hfx | ⟨i, hi, hix⟩
  ·have hq := hf x hfx
   unfold ldStep
   rw [if_pos hq]
   simp only
   exact ih (x + 1) { l with free := l.free ++ [x] } (by omega) (fun i hi => by
    show l.sh i = _
    rw [hl i hi]
    refine List.filter_congr fun e he => ?_
    have hp : e.2.2 ∈ pl i := by
     rw [← keptP_places (a.fl i).base (a.fl i).kept (pl i) (P.pn i hi)]
     exact List.mem_map_of_mem he
    have hne : e.2.2 ≠ x := fun e0 => p2 x hfx i hi (by rw [← e0]; exact hp)
    rw [decide_eq_decide]
    omega)
  ·obtain ⟨e, he, hex⟩ : ∃ e ∈ keptP (a.fl i).base (a.fl i).kept (pl i), e.2.2 = x := by
    rw [← keptP_places (a.fl i).base (a.fl i).kept (pl i) (P.pn i hi)] at hix
    obtain ⟨e, h1, h2⟩ := List.mem_map.1 hix
    exact ⟨e, h1, h2⟩
   have hrc := hk i hi e he
   rw [hex] at hrc
   have hgt := keptP_gt _ _ _ e he
   have hsrt := keptP_sorted (a.fl i).base (a.fl i).kept (pl i)
   have huniq : ∀ y ∈ keptP (a.fl i).base (a.fl i).kept (pl i), y.1 = e.1 → y = e := by
    intro y hy h1
    obtain ⟨j1, hj1, e1⟩ := List.mem_iff_getElem.1 hy
    obtain ⟨j2, hj2, e2⟩ := List.mem_iff_getElem.1 he
    have k1 := (keptP_get _ _ _ j1 y (by rw [List.getElem?_eq_getElem hj1, e1])).1
    have k2 := (keptP_get _ _ _ j2 e (by rw [List.getElem?_eq_getElem hj2, e2])).1
    have : j1 = j2 := by omega
    subst this
    rw [← e1, ← e2]
   have hplace : ∀ y ∈ keptP (a.fl i).base (a.fl i).kept (pl i), y.2.2 = x → y = e := by
    intro y hy h1
    obtain ⟨j1, hj1, e1⟩ := List.mem_iff_getElem.1 hy
    obtain ⟨j2, hj2, e2⟩ := List.mem_iff_getElem.1 he
    have k1 := (keptP_get _ _ _ j1 y (by rw [List.getElem?_eq_getElem hj1, e1])).2.2
    have k2 := (keptP_get _ _ _ j2 e (by rw [List.getElem?_eq_getElem hj2, e2])).2.2
    rw [h1] at k1
    rw [hex] at k2
    have : j1 = j2 := nodup_ix (p1 i hi) k1 k2
    subst this
    rw [← e1, ← e2]
   unfold ldStep
   rw [hrc]
   simp only
   rw [if_neg (by omega), hl i hi]
   have hno : (((keptP (a.fl i).base (a.fl i).kept (pl i)).filter fun e => decide (e.2.2 < x)).map (·.1)).contains e.1 = false := by
    cases hc : (((keptP (a.fl i).base (a.fl i).kept (pl i)).filter fun e => decide (e.2.2 < x)).map (·.1)).contains e.1 with
    | false => rfl
    | true =>
     rw [List.contains_iff_mem] at hc
     obtain ⟨y, hy, e1⟩ := List.mem_map.1 hc
     obtain ⟨y1, y2⟩ := List.mem_filter.1 hy
     have := huniq y y1 e1
     subst this
     simp at y2
     omega
   rw [hno, if_neg (by simp)]
   simp only
   exact ih (x + 1) { l with sh := fun k => if k = i then insP ((keptP (a.fl i).base (a.fl i).kept (pl i)).filter fun e => decide (e.2.2 < x)) (e.1, e.2.1, x) else l.sh k } (by omega) (fun k hk3 => by
    show (if k = i then _ else l.sh k) = _
    by_cases hki : k = i
    ·subst hki
     rw [if_pos rfl]
     have hee : ((e.1, e.2.1, x) : Pe) = e := by rw [← hex]
     rw [hee]
     exact (insP_filter _ hsrt he (by simp; omega) (by simp; omega) (fun y hy hne => by
      have : y.2.2 ≠ x := fun h1 => hne (by rw [hplace y hy h1])
      rw [decide_eq_decide]
      omega)).symm
    ·rw [if_neg hki, hl k hk3]
     refine List.filter_congr fun y hy => ?_
     have hp : y.2.2 ∈ pl k := by
      rw [← keptP_places (a.fl k).base (a.fl k).kept (pl k) (P.pn k hk3)]
      exact List.mem_map_of_mem hy
     have hne : y.2.2 ≠ x := fun e0 => p3 k i hk3 hi hki x (by rw [← e0]; exact hp) hix
     rw [decide_eq_decide]
     omega)
end Mod
end Go.Proofs.YtamafdcnbcoegaaGreat
namespace Go.Proofs.YtamafdcnbcoegaaGreat
namespace Mod
def reop (a : Ag) : Ag := { epoch := a.epoch + 1, ticks := 0, welcome := false, fenced := false, fl := fun i => if i < 3 then { base := (a.fl i).base, kept := (a.fl i).kept.map fun x => (x.1, 0), held := [] } else { base := 0, kept := [], held := [] } }
theorem agLoad_of {L : List UInt8} {h : Hd} {at' : Nat} {rs : List Rc} {l : Ld} (h1 : openSt L = some (h, at', rs)) (h2 : ldAll h.num rs 0 ld0 = some l) (h3 : ∀ i, i < 3 → okP (l.sh i) (h.num i) = true) : agLoad L = some (agOf h.o h.num l) := by
 unfold agLoad
 rw [h1]
 simp only
 rw [h2]
 simp only
 rw [if_pos ⟨h3 0 (by omega), h3 1 (by omega), h3 2 (by omega)⟩]
theorem agLoad_some {L : List UInt8} {a : Ag} (h : agLoad L = some a) : ∃ hd at' rs l, openSt L = some (hd, at', rs) ∧ ldAll hd.num rs 0 ld0 = some l ∧ (∀ i, i < 3 → okP (l.sh i) (hd.num i) = true) ∧ a = agOf hd.o hd.num l := by
 unfold agLoad at h
 cases ho : openSt L with
 | none => rw [ho] at h; cases h
 | some p =>
  obtain ⟨hd, at', rs⟩ := p
  rw [ho] at h
  simp only at h
  cases hl : ldAll hd.num rs 0 ld0 with
  | none => rw [hl] at h; cases h
  | some l =>
   rw [hl] at h
   simp only at h
   split at h
   ·rename_i hk
    cases h
    refine ⟨hd, at', rs, l, rfl, hl, fun i hi => ?_, rfl⟩
    obtain rfl | rfl | rfl : i = 0 ∨ i = 1 ∨ i = 2 := by omega
    ·exact hk.1
    ·exact hk.2.1
    ·exact hk.2.2
   ·cases h
theorem num_fun (g : Nat → Nat) (op c i : Nat) (hi : i < 3) : Hd.num ⟨op, c, g 0, g 1, g 2⟩ i = g i := by
 unfold Hd.num
 obtain rfl | rfl | rfl : i = 0 ∨ i = 1 ∨ i = 2 := by omega
 all_goals rfl
theorem ldAll_num {g g' : Nat → Nat} (hg : ∀ i, i < 3 → g i = g' i) : ∀ (rs : List Rc) (x : Nat) (l : Ld), (∀ r ∈ rs, r.s < 3) → ldAll g rs x l = ldAll g' rs x l
 | [], _, _, _ => rfl
 | r :: rs, x, l, h => by
  have e : ldStep g x r l = ldStep g' x r l := by unfold ldStep; rw [hg r.s (h r (.head _))]
  unfold ldAll
  rw [e]
  split
  ·rfl
  ·exact ldAll_num hg rs (x + 1) _ (fun r' hr => h r' (.tail _ hr))
theorem AgDisk.loads {L : List UInt8} {op ct hd : Nat} {a : Ag} {free : List Nat} {pl : Nat → List Nat} (D : AgDisk L op ct hd a free pl) (P : Places a free pl) (he : a.epoch = op) (hop : op ≤ 1073741824) (hsum : ∀ i, i < 3 → (a.fl i).base + (a.fl i).kept.length ≤ 1073741824) :
  agLoad L = some (reop a) := by
 obtain ⟨rc, r1, r2, r3⟩ := D.rcs
 obtain ⟨c, ho⟩ := D.ok.opens hop rc (fun x hx => r1 x hx)
 obtain ⟨l, hl, hs⟩ := ldAll_disk P rc r2 (fun x hx => (r3 x hx).2) 24 0 ld0 (by omega) (fun i _ => (List.filter_eq_nil_iff.2 fun e _ => by simp).symm)
 have hrc : (List.range 24).map (fun j => rc (0 + j)) = (List.range (26 - 2)).map rc := by
  apply List.map_congr_left
  intro j _
  rw [Nat.zero_add]
 rw [hrc] at hl
 have hnum := fun i hi => num_fun (fun i => (a.fl i).base) op c i hi
 have hl2 : ldAll (Hd.num ⟨op, c, (a.fl 0).base, (a.fl 1).base, (a.fl 2).base⟩) ((List.range (26 - 2)).map rc) 0 ld0 = some l := by
  rw [ldAll_num (g' := fun i => (a.fl i).base) hnum _ _ _ ?_]
  ·exact hl
  ·intro r hr
   obtain ⟨x, hx, rfl⟩ := List.mem_map.1 hr
   rcases r1 x (by simpa using hx) with ⟨_, e⟩ | ⟨_, _, _, _, _, _, hf, _⟩
   ·rw [e]; simp [rc0]
   ·exact hf.1
 rw [agLoad_of ho hl2 (fun i hi => by
  rw [hnum i hi, hs i hi]
  have := hsum i hi
  unfold okP
  rw [keptP_lastP _ _ _ (P.pn i hi), keptP_length _ _ _ (P.pn i hi)]
  simp
  omega)]
 unfold agOf reop
 congr 2
 ·rw [he]
 ·funext i
  by_cases hi : i < 3
  ·rw [if_pos hi, if_pos hi, hnum i hi, hs i hi]
   congr 1
   have := keptP_bodies (a.fl i).base (a.fl i).kept (pl i) (P.pn i hi)
   have h2 := congrArg (List.map fun b : ByteArray => (b, 0)) this
   rw [List.map_map, List.map_map] at h2
   exact h2
  ·rw [if_neg hi, if_neg hi]
theorem keptP_same : ∀ (b : Nat) (k k' : List (ByteArray × Nat)) (p : List Nat), k.map (·.1) = k'.map (·.1) → keptP b k p = keptP b k' p
 | _, [], [], _, _ => rfl
 | b, [], _ :: _, p, h => by simp at h
 | b, _ :: _, [], p, h => by simp at h
 | b, x :: r, y :: s, [], _ => by simp [keptP]
 | b, x :: r, y :: s, q :: qs, h => by
  simp only [List.map_cons, List.cons.injEq] at h
  rw [keptP, keptP, h.1, keptP_same (b + 1) r s qs h.2]
theorem keptP_app : ∀ (b : Nat) (k k' : List (ByteArray × Nat)) (p p' : List Nat), p.length = k.length → keptP b (k ++ k') (p ++ p') = keptP b k p ++ keptP (b + k.length) k' p'
 | b, [], k', [], p', _ => by simp [keptP]
 | b, [], k', q :: qs, p', h => by simp at h
 | b, x :: r, k', [], p', h => by simp at h
 | b, x :: r, k', q :: qs, p', h => by
  show keptP b (x :: (r ++ k')) (q :: (qs ++ p')) = _
  rw [keptP, keptP, keptP_app (b + 1) r k' qs p' (by simpa using h), List.length_cons, show b + 1 + r.length = b + (r.length + 1) by omega]
  rfl
theorem keptP_drop : ∀ (n b : Nat) (k : List (ByteArray × Nat)) (p : List Nat), n ≤ k.length → p.length = k.length → keptP (b + n) (k.drop n) (p.drop n) = (keptP b k p).drop n
 | 0, b, k, p, _, _ => rfl
 | n + 1, b, [], p, h, _ => by simp at h
 | n + 1, b, x :: r, [], _, h => by simp at h
 | n + 1, b, x :: r, q :: qs, h, h2 => by
  rw [List.drop_succ_cons, List.drop_succ_cons, keptP, List.drop_succ_cons, ← keptP_drop n (b + 1) r qs (by simpa using h) (by simpa using h2), show b + 1 + n = b + (n + 1) by omega]
theorem AgDisk.same {L : List UInt8} {op ct hd : Nat} {a a' : Ag} {free : List Nat} {pl : Nat → List Nat} (D : AgDisk L op ct hd a free pl) (hb : ∀ i, i < 3 → (a'.fl i).base = (a.fl i).base ∧ (a'.fl i).kept.map (·.1) = (a.fl i).kept.map (·.1)) : AgDisk L op ct hd a' free pl := by
 obtain ⟨rc, r1, r2, r3⟩ := D.rcs
 obtain ⟨k1, k2, k3, k4, k5, k6, k7, c, k8, k9, k10⟩ := D.ok
 have h3 : ∀ x, x < 24 → (rc x).s < 3 := fun x hx => by
  rcases r1 x hx with ⟨_, e⟩ | ⟨_, _, _, _, _, _, hf, _⟩
  ·rw [e]; simp [rc0]
  ·exact hf.1
 refine ⟨⟨k1, k2, k3, k4, k5, k6, fun i hi => by rw [(hb i hi).1]; exact k7 i hi, c, k8, ?_, k10⟩, rc, r1, fun i hi e he => ?_, fun x hx => ?_⟩
 ·rw [(hb 0 (by omega)).1, (hb 1 (by omega)).1, (hb 2 (by omega)).1]
  exact k9
 ·rw [(hb i hi).1, keptP_same _ _ _ _ (hb i hi).2] at he
  exact r2 i hi e he
 ·obtain ⟨h1, h2⟩ := r3 x hx
  exact ⟨h1, by rw [(hb _ h1).1]; exact h2⟩
theorem AgDisk.submit {L : List UInt8} {op ct hd : Nat} {a : Ag} {fr : List Nat} {x : Nat} {pl : Nat → List Nat} (D : AgDisk L op ct hd a (fr ++ [x]) pl) (P : Places a (fr ++ [x]) pl) {s : Nat} (hs : s < 3) {b : ByteArray} (hb : b.size ≤ 20) (hct : ct + 1 < 18446744073709551616) (hq : (a.fl s).base + (a.fl s).kept.length + 1 ≤ 2147483647) :
  AgDisk (setSec L (2 + x) (sealR op (ct + 1) ⟨s, (a.fl s).base + (a.fl s).kept.length + 1, b⟩)) op (ct + 1) hd (a.submit s b) fr (fun t => if t = s then pl s ++ [x] else pl t) := by
 obtain ⟨rc, r1, r2, r3⟩ := D.rcs
 have hx : x < 24 := P.lt x (by simp)
 have hS : (sealR op (ct + 1) ⟨s, (a.fl s).base + (a.fl s).kept.length + 1, b⟩).length = 64 := length_sealR hb
 have hl := D.ok.len
 have hfl : ∀ j, (a.submit s b).fl j = if j = s then { a.fl s with kept := (a.fl s).kept ++ [(b, 0)] } else a.fl j := fun j => rfl
 have hbase : ∀ j, ((a.submit s b).fl j).base = (a.fl j).base := fun j => by
  rw [hfl]
  split
  ·rename_i e; rw [e]
  ·rfl
 have hfit : Rc.fits ⟨s, (a.fl s).base + (a.fl s).kept.length + 1, b⟩ := ⟨hs, by show 1 ≤ (a.fl s).base + _ + 1; omega, hq, hb⟩
 obtain ⟨p1, p2, p3⟩ := P.apart
 have hxp : ∀ i, i < 3 → x ∉ pl i := p2 x (by simp)
 have hxf : x ∉ fr := by
  have := P.nd
  rw [List.nodup_append, List.nodup_append, List.nodup_append] at this
  obtain ⟨⟨⟨n0, _⟩, _⟩, _⟩ := this
  rw [List.nodup_append] at n0
  intro hm
  exact n0.2.2 x hm x (by simp) rfl
 have hok := D.ok.record (x := x) hS (by omega) hct
 have hbf : (fun i => ((a.submit s b).fl i).base) = fun i => (a.fl i).base := funext hbase
 obtain ⟨rc', hrc⟩ : ∃ rc' : Nat → Rc, ∀ y, rc' y = if y = x then ⟨s, (a.fl s).base + (a.fl s).kept.length + 1, b⟩ else rc y := ⟨_, fun _ => rfl⟩
 refine ⟨by rw [hbf]; exact hok, rc', fun y hy => ?_, fun i hi e he => ?_, fun y hy => ?_⟩
 ·by_cases e : y = x
  ·subst e
   rw [hrc, if_pos rfl, sec_set hS (by omega)]
   exact .inr ⟨op, ct + 1, D.ok.op1, Nat.le_refl _, D.ok.opm, hct, hfit, rfl⟩
  ·rw [hrc, if_neg e, sec_other hS (by omega) (by omega)]
   exact r1 y hy
 ·have hmem : ∀ i, i < 3 → ∀ e ∈ keptP (a.fl i).base (a.fl i).kept (pl i), e.2.2 ≠ x := fun i hi e he h1 => by
   apply hxp i hi
   rw [← keptP_places (a.fl i).base (a.fl i).kept (pl i) (P.pn i hi), ← h1]
   exact List.mem_map_of_mem he
  by_cases hsi : i = s
  ·subst hsi
   rw [hfl, if_pos rfl, if_pos rfl, keptP_app _ _ _ _ _ (P.pn i hi), List.mem_append] at he
   rcases he with he | he
   ·rw [hrc, if_neg (hmem i hi e he)]
    exact r2 i hi e he
   ·simp only [keptP, List.mem_singleton] at he
    subst he
    rw [hrc, if_pos rfl]
  ·rw [hfl, if_neg hsi, if_neg hsi] at he
   rw [hrc, if_neg (hmem i hi e he)]
   exact r2 i hi e he
 ·have hyx : y ≠ x := fun e => hxf (by rw [← e]; exact hy)
  rw [hrc, if_neg hyx, hbase]
  exact r3 y (by simp [hy])
theorem AgDisk.gone {L : List UInt8} {op ct hd : Nat} {a a' : Ag} {free free' : List Nat} {pl pl' : Nat → List Nat} (D : AgDisk L op ct hd a free pl) (P : Places a free pl) (n : Nat → Nat) (hn : ∀ i, i < 3 → n i ≤ (a.fl i).kept.length) (hb : ∀ i, i < 3 → (a'.fl i).base = (a.fl i).base + n i ∧ (a'.fl i).kept.map (·.1) = ((a.fl i).kept.drop (n i)).map (·.1))
  (hp : ∀ i, i < 3 → pl' i = (pl i).drop (n i)) (hf : ∀ x ∈ free', x ∈ free ∨ ∃ i, i < 3 ∧ x ∈ (pl i).take (n i)) (hct : ct + 1 < 18446744073709551616) (hq : ∀ i, i < 3 → (a.fl i).base + (a.fl i).kept.length ≤ 2147483647) :
  AgDisk (setSec L (1 - hd) (sealH ⟨op, ct + 1, (a'.fl 0).base, (a'.fl 1).base, (a'.fl 2).base⟩)) op (ct + 1) (1 - hd) a' free' pl' := by
 obtain ⟨rc, r1, r2, r3⟩ := D.rcs
 have hl := D.ok.len
 refine ⟨D.ok.numbers (g' := fun i => (a'.fl i).base) (fun i hi => by have := hq i hi; have := hn i hi; rw [(hb i hi).1]; omega) hct, rc, fun y hy => ?_, fun i hi e he => ?_, fun y hy => ?_⟩
 ·rw [sec_other (length_sealH _) (by omega) (by omega)]
  exact r1 y hy
 ·rw [(hb i hi).1, keptP_same _ _ _ _ (hb i hi).2, hp i hi, keptP_drop _ _ _ _ (hn i hi) (P.pn i hi)] at he
  exact r2 i hi e (List.mem_of_mem_drop he)
 ·rcases hf y hy with h | ⟨i, hi, h⟩
  ·obtain ⟨h1, h2⟩ := r3 y h
   exact ⟨h1, by rw [(hb _ h1).1]; omega⟩
  ·obtain ⟨j, hj, e⟩ := List.mem_iff_getElem.1 h
   have hjn : j < n i ∧ j < (pl i).length := by simp at hj; omega
   have hpj : (pl i)[j]? = some y := by
    rw [List.getElem_take] at e
    rw [List.getElem?_eq_getElem hjn.2, e]
   have hkl := keptP_length (a.fl i).base (a.fl i).kept (pl i) (P.pn i hi)
   have hpn := P.pn i hi
   have hge : j < (keptP (a.fl i).base (a.fl i).kept (pl i)).length := by omega
   obtain ⟨g1, g2, g3⟩ := keptP_get _ _ _ j _ (List.getElem?_eq_getElem hge)
   rw [hpj] at g3
   have g4 : (keptP (a.fl i).base (a.fl i).kept (pl i))[j].2.2 = y := by injection g3 with g3; exact g3.symm
   have := r2 i hi _ (List.getElem_mem hge)
   rw [g4] at this
   rw [this]
   refine ⟨hi, ?_⟩
   show (keptP (a.fl i).base (a.fl i).kept (pl i))[j].1 ≤ (a'.fl i).base
   rw [g1, (hb i hi).1]
   omega
end Mod
end Go.Proofs.YtamafdcnbcoegaaGreat
namespace Go.Proofs.YtamafdcnbcoegaaGreat
namespace Mod
theorem insP_perm {e : Pe} : ∀ {l : List Pe}, (∀ y ∈ l, y.1 ≠ e.1) → (insP l e).Perm (e :: l)
 | [], _ => List.Perm.refl _
 | y :: r, h => by
  have h1 := h y (.head _)
  unfold insP
  rw [if_neg (fun e' => h1 e'.symm)]
  split
  ·exact List.Perm.refl _
  ·exact ((insP_perm (fun z hz => h z (.tail _ hz))).cons y).trans (List.Perm.swap e y r)
theorem insP_sorted {e : Pe} : ∀ {l : List Pe}, l.Pairwise (fun x y => x.1 < y.1) → (∀ y ∈ l, y.1 ≠ e.1) → (insP l e).Pairwise (fun x y => x.1 < y.1)
 | [], _, _ => by simp [insP]
 | y :: r, hs, h => by
  have h1 := h y (.head _)
  rw [List.pairwise_cons] at hs
  unfold insP
  rw [if_neg (fun e' => h1 e'.symm)]
  split
  ·rename_i hlt
   rw [List.pairwise_cons, List.pairwise_cons]
   refine ⟨fun z hz => ?_, hs.1, hs.2⟩
   cases hz with
   | head => exact hlt
   | tail _ hz => exact Nat.lt_trans hlt (hs.1 z hz)
  ·rename_i hlt
   rw [List.pairwise_cons]
   refine ⟨fun z hz => ?_, insP_sorted hs.2 (fun z hz => h z (.tail _ hz))⟩
   have := (insP_perm (fun z hz => h z (.tail _ hz)) : (insP r e).Perm (e :: r)).subset hz
   cases this with
   | head => omega
   | tail _ hz => exact hs.1 z hz
structure LdInv (g : Nat → Nat) (rs : List Rc) (x : Nat) (l : Ld) : Prop where
 srt : ∀ i, (l.sh i).Pairwise (fun y z => y.1 < z.1)
 rcd : ∀ i, ∀ e ∈ l.sh i, g i < e.1 ∧ e.2.2 < x ∧ rs[e.2.2]? = some ⟨i, e.1, e.2.1⟩
 fre : ∀ y ∈ l.free, y < x ∧ ∃ r, rs[y]? = some r ∧ r.q ≤ g r.s
 nd : (l.free ++ (l.sh 0).map (·.2.2) ++ (l.sh 1).map (·.2.2) ++ (l.sh 2).map (·.2.2)).Nodup
 sum : l.free.length + (l.sh 0).length + (l.sh 1).length + (l.sh 2).length = x
theorem ldInv_zero (g : Nat → Nat) (rs : List Rc) : LdInv g rs 0 ld0 :=
 ⟨fun i => List.Pairwise.nil, fun i e he => by simp [ld0] at he, fun y hy => by simp [ld0] at hy, by simp [ld0], rfl⟩
theorem LdInv.step {g : Nat → Nat} {rs : List Rc} {x : Nat} {l l' : Ld} {r : Rc} (h : LdInv g rs x l) (hr : rs[x]? = some r) (hs : r.s < 3) (hl : ldStep g x r l = some l') : LdInv g rs (x + 1) l' := by
 have hall : ∀ y ∈ l.free ++ (l.sh 0).map (·.2.2) ++ (l.sh 1).map (·.2.2) ++ (l.sh 2).map (·.2.2), y < x := by
  intro y hy
  simp only [List.mem_append, List.mem_map] at hy
  rcases hy with ((hy | ⟨e, he, rfl⟩) | ⟨e, he, rfl⟩) | ⟨e, he, rfl⟩
  ·exact (h.fre y hy).1
  ·exact (h.rcd 0 e he).2.1
  ·exact (h.rcd 1 e he).2.1
  ·exact (h.rcd 2 e he).2.1
 have hnx : x ∉ l.free ++ (l.sh 0).map (·.2.2) ++ (l.sh 1).map (·.2.2) ++ (l.sh 2).map (·.2.2) := fun hm => Nat.lt_irrefl _ (hall x hm)
 have hcons := List.nodup_cons.2 ⟨hnx, h.nd⟩
 unfold ldStep at hl
 split at hl
 ·rename_i hq
  cases hl
  refine ⟨h.srt, fun i e he => ⟨(h.rcd i e he).1, Nat.lt_succ_of_lt (h.rcd i e he).2.1, (h.rcd i e he).2.2⟩, fun y hy => ?_, ?_, ?_⟩
  ·rw [List.mem_append, List.mem_singleton] at hy
   rcases hy with hy | rfl
   ·exact ⟨Nat.lt_succ_of_lt (h.fre y hy).1, (h.fre y hy).2⟩
   ·exact ⟨Nat.lt_succ_self _, r, hr, hq⟩
  ·refine (List.Perm.nodup_iff ?_).2 hcons
   simp only [List.append_assoc]
   exact List.perm_middle
  ·have := h.sum
   simp only [List.length_append, List.length_singleton]
   omega
 ·rename_i hq
  split at hl
  ·cases hl
  ·rename_i hc
   cases hl
   have hk : ∀ y ∈ l.sh r.s, y.1 ≠ r.q := fun y hy e => hc (by
    rw [List.contains_iff_mem]
    exact List.mem_map.2 ⟨y, hy, e⟩)
   have hp : (insP (l.sh r.s) (r.q, r.b, x)).Perm ((r.q, r.b, x) :: l.sh r.s) := insP_perm hk
   have hpl : ((insP (l.sh r.s) (r.q, r.b, x)).map (·.2.2)).Perm (x :: (l.sh r.s).map (·.2.2)) := hp.map _
   refine ⟨fun i => ?_, fun i e he => ?_, fun y hy => ⟨Nat.lt_succ_of_lt (h.fre y hy).1, (h.fre y hy).2⟩, ?_, ?_⟩
   ·show List.Pairwise _ (if i = r.s then insP (l.sh r.s) (r.q, r.b, x) else l.sh i)
    split
    ·exact insP_sorted (h.srt r.s) hk
    ·exact h.srt i
   ·have he' : e ∈ (if i = r.s then insP (l.sh r.s) (r.q, r.b, x) else l.sh i) := he
    by_cases e0 : i = r.s
    ·rw [if_pos e0] at he'
     have := hp.subset he'
     cases this with
     | head => rw [e0]; exact ⟨Nat.lt_of_not_le hq, Nat.lt_succ_self _, hr⟩
     | tail _ hm => rw [e0]; exact ⟨(h.rcd r.s e hm).1, Nat.lt_succ_of_lt (h.rcd r.s e hm).2.1, (h.rcd r.s e hm).2.2⟩
    ·rw [if_neg e0] at he'
     exact ⟨(h.rcd i e he').1, Nat.lt_succ_of_lt (h.rcd i e he').2.1, (h.rcd i e he').2.2⟩
   ·refine (List.Perm.nodup_iff ?_).2 hcons
    show (l.free ++ (if 0 = r.s then insP (l.sh r.s) (r.q, r.b, x) else l.sh 0).map (·.2.2) ++ (if 1 = r.s then insP (l.sh r.s) (r.q, r.b, x) else l.sh 1).map (·.2.2) ++ (if 2 = r.s then insP (l.sh r.s) (r.q, r.b, x) else l.sh 2).map (·.2.2)).Perm _
    obtain e | e | e : r.s = 0 ∨ r.s = 1 ∨ r.s = 2 := by omega
    ·rw [e] at hpl ⊢
     rw [if_pos rfl, if_neg (by omega), if_neg (by omega)]
     simp only [List.append_assoc]
     exact ((List.Perm.append_left _ (List.Perm.append_right _ hpl))).trans List.perm_middle
    ·rw [e] at hpl ⊢
     rw [if_neg (by omega), if_pos rfl, if_neg (by omega)]
     simp only [List.append_assoc]
     refine (List.Perm.append_left _ (List.Perm.append_left _ (List.Perm.append_right _ hpl))).trans ?_
     rw [List.cons_append, ← List.append_assoc l.free, ← List.append_assoc l.free]
     exact List.perm_middle
    ·rw [e] at hpl ⊢
     rw [if_neg (by omega), if_neg (by omega), if_pos rfl]
     exact (List.Perm.append_left _ hpl).trans List.perm_middle
   ·have hlen := hp.length_eq
    rw [List.length_cons] at hlen
    have := h.sum
    show l.free.length + (if 0 = r.s then insP (l.sh r.s) (r.q, r.b, x) else l.sh 0).length + (if 1 = r.s then insP (l.sh r.s) (r.q, r.b, x) else l.sh 1).length + (if 2 = r.s then insP (l.sh r.s) (r.q, r.b, x) else l.sh 2).length = x + 1
    obtain e | e | e : r.s = 0 ∨ r.s = 1 ∨ r.s = 2 := by omega
    ·rw [e] at hlen ⊢
     rw [if_pos rfl, if_neg (by omega), if_neg (by omega)]
     omega
    ·rw [e] at hlen ⊢
     rw [if_neg (by omega), if_pos rfl, if_neg (by omega)]
     omega
    ·rw [e] at hlen ⊢
     rw [if_neg (by omega), if_neg (by omega), if_pos rfl]
     omega
theorem ldInv_all {g : Nat → Nat} {rs : List Rc} : ∀ (qs : List Rc) (x : Nat) (l l' : Ld), (∀ j, qs[j]? = rs[x + j]?) → (∀ r ∈ qs, r.s < 3) → LdInv g rs x l → ldAll g qs x l = some l' → LdInv g rs (x + qs.length) l'
 | [], x, l, l', _, _, h, hl => by cases hl; exact h
 | r :: qs, x, l, l', hq, hs, h, hl => by
  unfold ldAll at hl
  cases hst : ldStep g x r l with
  | none => rw [hst] at hl; cases hl
  | some l2 =>
   rw [hst] at hl
   have h0 := hq 0
   rw [List.getElem?_cons_zero, Nat.add_zero] at h0
   have := ldInv_all qs (x + 1) l2 l' (fun j => by
    have := hq (j + 1)
    rw [List.getElem?_cons_succ] at this
    rw [this]
    congr 1
    omega) (fun r' hr => hs r' (.tail _ hr)) (h.step h0.symm (hs r (.head _)) hst) hl
   rw [List.length_cons, show x + (qs.length + 1) = x + 1 + qs.length by omega]
   exact this
theorem sorted_room : ∀ (r : List Pe) (c u : Nat), c ≤ u → r.Pairwise (fun x y => x.1 < y.1) → (∀ y ∈ r, c < y.1 ∧ y.1 ≤ u) → c + r.length ≤ u
 | [], c, u, h, _, _ => by simpa using h
 | y :: r, c, u, h, hs, hy => by
  rw [List.pairwise_cons] at hs
  have h1 := hy y (.head _)
  have := sorted_room r y.1 u h1.2 hs.2 (fun z hz => ⟨hs.1 z hz, (hy z (.tail _ hz)).2⟩)
  rw [List.length_cons]
  omega
theorem keptP_of : ∀ (l : List Pe) (b : Nat), l.Pairwise (fun x y => x.1 < y.1) → (∀ e ∈ l, b < e.1 ∧ e.1 ≤ b + l.length) → keptP b (l.map fun e => (e.2.1, 0)) (l.map (·.2.2)) = l
 | [], _, _, _ => rfl
 | e :: r, b, hs, hb => by
  rw [List.pairwise_cons] at hs
  have h1 := hb e (.head _)
  rw [List.length_cons] at h1
  have h2 := sorted_room r e.1 (b + (r.length + 1)) h1.2 hs.2 (fun z hz => ⟨hs.1 z hz, by have := (hb z (.tail _ hz)).2; rw [List.length_cons] at this; exact this⟩)
  have h3 : e.1 = b + 1 := by omega
  rw [List.map_cons, List.map_cons, keptP]
  have := keptP_of r (b + 1) hs.2 (fun z hz => ⟨by have := hs.1 z hz; omega, by have := (hb z (.tail _ hz)).2; rw [List.length_cons] at this; omega⟩)
  rw [this, ← h3]
theorem lastP_bound {l : List Pe} {b : Nat} (hs : l.Pairwise (fun x y => x.1 < y.1)) : ∀ e ∈ l, e.1 ≤ lastP l b := by
 intro e he
 obtain ⟨j, hj, e0⟩ := List.mem_iff_getElem.1 he
 unfold lastP
 rw [List.getLast?_eq_getElem?, List.getElem?_eq_getElem (by omega : l.length - 1 < l.length)]
 simp only
 by_cases h : j = l.length - 1
 ·subst h
  rw [← e0]
  omega
 ·have := List.pairwise_iff_getElem.1 hs j (l.length - 1) hj (by omega) (by omega)
  rw [e0] at this
  omega
def plOf (l : Ld) (i : Nat) : List Nat := (l.sh i).map (·.2.2)
theorem agDisk_opened {L : List UInt8} {hd : Hd} {at' : Nat} {rs : List Rc} {l : Ld} (ho : openSt L = some (hd, at', rs)) (hl : ldAll hd.num rs 0 ld0 = some l) (hk : ∀ i, i < 3 → okP (l.sh i) (hd.num i) = true) (hlen : L.length = 1664) :
  AgDisk (openL L hd at') (hd.o + 1) 1 (1 - at') (agOf hd.o hd.num l) l.free (plOf l) ∧ Places (agOf hd.o hd.num l) l.free (plOf l) ∧ (∀ i, i < 3 → keptP (hd.num i) ((l.sh i).map fun e => (e.2.1, 0)) (plOf l i) = l.sh i) := by
 obtain ⟨hn, hr⟩ := openSt_some ho
 rw [hlen] at hr
 obtain ⟨r1, r2⟩ := recsFrom_some _ _ hr
 have hat : ∀ x, x < 24 → RecAt (sec L (2 + x)) (hd.o + 1) (rs.getD x rc0) := fun x hx => by
  obtain ⟨k1, k2⟩ := r2 x hx
  rw [Nat.zero_add] at k1 k2
  rw [List.getD_eq_getElem?_getD, k2]
  exact (recAt_ok k1).up (by omega)
 have hsm : ∀ r ∈ rs, r.s < 3 := fun r hr => by
  obtain ⟨x, hx, e⟩ := List.mem_iff_getElem.1 hr
  obtain ⟨k1, k2⟩ := r2 x (by omega)
  rw [List.getElem?_eq_getElem hx, e] at k2
  cases k2
  exact (recOk_small k1).1
 have hI := ldInv_all (g := hd.num) (rs := rs) rs 0 ld0 l (fun j => by rw [Nat.zero_add]) hsm (ldInv_zero _ _) hl
 have hrl : rs.length = 24 := r1
 rw [hrl, Nat.zero_add] at hI
 have hok := opened_ok hn (m := 26) (by omega) (by omega)
 have hkp : ∀ i, i < 3 → keptP (hd.num i) ((l.sh i).map fun e => (e.2.1, 0)) (plOf l i) = l.sh i := fun i hi => by
  refine keptP_of _ _ (hI.srt i) (fun e he => ⟨(hI.rcd i e he).1, ?_⟩)
  have h1 := hk i hi
  unfold okP at h1
  simp only [Bool.and_eq_true, decide_eq_true_eq] at h1
  rw [← h1.2]
  exact lastP_bound (hI.srt i) e he
 have hbs : ∀ i, i < 3 → ((agOf hd.o hd.num l).fl i).base = hd.num i := fun i hi => by unfold agOf; simp only; rw [if_pos hi]
 have hkt : ∀ i, i < 3 → ((agOf hd.o hd.num l).fl i).kept = (l.sh i).map fun e => (e.2.1, 0) := fun i hi => by unfold agOf; simp only; rw [if_pos hi]
 refine ⟨⟨⟨hok.len, hok.two, hok.hd1, hok.op1, hok.opm, hok.ctm, fun i hi => by rw [hbs i hi]; exact hok.sm i hi, ?_⟩, fun x => rs.getD x rc0, fun x hx => ?_, fun i hi e he => ?_, fun x hx => ?_⟩, ⟨fun i hi => ?_, hI.nd, fun x hx => ?_, ?_⟩, hkp⟩
 ·rw [hbs 0 (by omega), hbs 1 (by omega), hbs 2 (by omega)]
  exact hok.hs
 ·rw [openL_other (m := 26) (by omega) (by omega) (by omega)]
  exact hat x hx
 ·rw [hbs i hi, hkt i hi, hkp i hi] at he
  show rs.getD e.2.2 rc0 = _
  rw [List.getD_eq_getElem?_getD, (hI.rcd i e he).2.2]
  rfl
 ·obtain ⟨_, r, h1, h2⟩ := hI.fre x hx
  have : rs.getD x rc0 = r := by rw [List.getD_eq_getElem?_getD, h1]; rfl
  show (rs.getD x rc0).s < 3 ∧ (rs.getD x rc0).q ≤ ((agOf hd.o hd.num l).fl (rs.getD x rc0).s).base
  rw [this]
  have h3 := hsm r (List.mem_of_getElem? h1)
  exact ⟨h3, by rw [hbs _ h3]; exact h2⟩
 ·rw [hkt i hi]
  simp [plOf]
 ·simp only [List.mem_append, plOf, List.mem_map] at hx
  rcases hx with ((hx | ⟨e, he, rfl⟩) | ⟨e, he, rfl⟩) | ⟨e, he, rfl⟩
  ·exact (hI.fre x hx).1
  ·exact (hI.rcd 0 e he).2.1
  ·exact (hI.rcd 1 e he).2.1
  ·exact (hI.rcd 2 e he).2.1
 ·have := hI.sum
  unfold Ag.room
  rw [hkt 0 (by omega), hkt 1 (by omega), hkt 2 (by omega)]
  simp only [List.length_map]
  omega
end Mod
end Go.Proofs.YtamafdcnbcoegaaGreat
