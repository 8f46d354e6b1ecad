/-
  Part 6 of a proof: S9A, D9, D10, D11, D12, D13, D14, D15, D16.
-/
import Derived.Laws.Cover3
import Derived.Test.YtamafdcnbcoegaaGreatSd5
namespace Go.Proofs.YtamafdcnbcoegaaGreat
open Go.RowKit


/-- How many things have a number up to n. -/
def cutAt (l : List (Nat × Value)) (n : Nat) : Nat := l.countP (·.1 ≤ n)
theorem cut_sum {ns : List Nat} {n : Nat} (hs : ns.Pairwise (· < ·)) : ns.countP (· < n) + (if ns.contains n then 1 else 0) = ns.countP (· ≤ n) := by
  induction ns with
  | nil => rfl
  | cons x r ih =>
    rw [List.pairwise_cons] at hs
    obtain ⟨h0, hs⟩ := hs
    have ih := ih hs
    rw [List.countP_cons, List.countP_cons, List.contains_cons]
    by_cases h1 : x = n
    · subst h1
      have hn : r.contains x = false := by
        cases h : r.contains x with
        | false => rfl
        | true => have := h0 x (by simpa using h); omega
      rw [hn] at ih
      simp only [Bool.false_eq_true, if_false, Nat.add_zero] at ih
      simp [ih]
    · have hne : (n == x) = false := by simp; omega
      rw [hne, Bool.false_or]
      generalize (if r.contains n = true then 1 else 0) = z at *
      by_cases h2 : x < n
      · have h3 : x ≤ n := by omega
        simp only [h2, h3, decide_true, if_true]
        omega
      · have h3 : ¬ x ≤ n := by omega
        simp only [h2, h3, decide_false, Bool.false_eq_true, if_false]
        omega
theorem cut_eq {l : List (Nat × Value)} {n : Nat} (hs : (l.map (·.1)).Pairwise (· < ·)) : (l.map (·.1)).countP (· < n) + (if (l.map (·.1)).contains n then 1 else 0) = cutAt l n := by
  rw [cut_sum hs, List.countP_map]
  rfl
theorem cut_le (l : List (Nat × Value)) (n : Nat) : cutAt l n ≤ l.length := List.countP_le_length
theorem cut_split {l : List (Nat × Value)} {n : Nat} (hs : (l.map (·.1)).Pairwise (· < ·)) : (∀ x ∈ l.take (cutAt l n), x.1 ≤ n) ∧ ∀ x ∈ l.drop (cutAt l n), n < x.1 := by
  induction l with
  | nil => simp [cutAt]
  | cons x r ih =>
    rw [List.map_cons, List.pairwise_cons] at hs
    obtain ⟨h0, hs⟩ := hs
    obtain ⟨i1, i2⟩ := ih hs
    by_cases h : x.1 ≤ n
    · have hc : cutAt (x :: r) n = cutAt r n + 1 := by simp [cutAt, h]
      rw [hc, List.take_succ_cons, List.drop_succ_cons]
      refine ⟨fun y hy => ?_, i2⟩
      cases hy with
      | head => exact h
      | tail _ hy => exact i1 y hy
    · have hc : cutAt (x :: r) n = 0 := by
        unfold cutAt
        rw [List.countP_eq_zero]
        intro y hy
        cases hy with
        | head => simpa using h
        | tail _ hy =>
          have := h0 y.1 (List.mem_map.2 ⟨y, hy, rfl⟩)
          simp; omega
      rw [hc]
      refine ⟨by simp, fun y hy => ?_⟩
      cases hy with
      | head => omega
      | tail _ hy =>
        have := h0 y.1 (List.mem_map.2 ⟨y, hy, rfl⟩)
        omega
theorem del_look {x : Nat × Value} {r : List (Nat × Value)} (h : ∀ y ∈ r, x.1 < y.1) : delF (look (x :: r)) x.1 = look r := by
  funext k
  unfold delF
  by_cases hk : k = (x.1 : Int)
  · rw [if_pos hk]
    cases hv : look r k with
    | none => rfl
    | some v =>
      obtain ⟨y, hy, e, _⟩ := look_mem hv
      have := h y hy
      omega
  · rw [if_neg hk, look_cons, if_neg hk]
theorem Far.behind {E : Nat → Prop} {w x y : World} (h : Far E w x) (h' : Below w.heap.size x y) : Far E w y :=
  ⟨h'.os.trans h.os, h'.tape.trans h.tape, h'.output.trans h.output, Nat.le_trans h.size h'.size, fun k hk he => (h'.block k hk).trans (h.rest k hk he)⟩
theorem ownsRow_keep2 {w w' : World} {B size : Nat} {e : TypeId} {v : Value} {n : Nat} {xs : List Value} (h : w.ownsRow B e size v n xs) (hk : ∀ g, v.ownBlock = some g → w'.heap[g]? = w.heap[g]?) : w'.ownsRow B e size v n xs := by
  obtain ⟨h1, h2⟩ := h
  refine ⟨h1, ?_⟩
  rcases h2 with h2 | ⟨g, cap, cur, rfl, hb, hh, r⟩
  · exact .inl h2
  · exact .inr ⟨g, cap, cur, rfl, hb, by rw [hk g rfl]; exact hh, r⟩
/-- The cells of things. -/
def vcells : Value → List Value
  | .agg a => a.toList
  | v => [v]
def flat (l : List (Nat × Value)) : List Value := l.flatMap fun x => vcells x.2
theorem flat_snoc (l : List (Nat × Value)) (x : Nat × Value) : flat (l ++ [x]) = flat l ++ vcells x.2 := by simp [flat]
/-- Behind a call that takes things away: the row lies where it lay, and so does the map. -/
structure ShTook (w x : World) (p o : Nat) (t : TypeId) (arr : Array Value) (nv mv : Value) (l' : List (Nat × Value)) : Prop where
  out : ∃ nv', ShAt x p o t (arr.setIfInBounds o nv') nv' mv l' ∧ nv'.ownBlock = nv.ownBlock
  far : Far (fun k => k = p ∨ ShU nv mv k) w x
theorem ShTook.step {w x : World} {p o : Nat} {t : TypeId} {arr : Array Value} {nv mv : Value} {l' : List (Nat × Value)} (h : ShTook w x p o t arr nv mv l') (h1 : arr[o + 1]? = some mv) : ShStep w x p o t arr nv mv l' := by
  obtain ⟨nv', S, e⟩ := h.out
  have e2 : (arr.setIfInBounds o nv').setIfInBounds (o + 1) mv = arr.setIfInBounds o nv' := set_same (by rw [Array.getElem?_setIfInBounds_ne (by omega)]; exact h1)
  exact ⟨⟨nv', mv, by rw [e2]; exact S, .inr (.inl e), .inl rfl⟩, h.far⟩


theorem infoRA : (Tryz.prog.info? 158).map (fun i => (i.zero, i.size, i.bytes)) = some (some (.agg #[.string ⟨#[]⟩, .int .i64 0]), 2, 24) := by kernel_rfl
set_option maxRecDepth 100000 in
set_option maxHeartbeats 2000000 in
theorem takeUpToA_any {w : World} {p o : Nat} {t : TypeId} {arr : Array Value} {nv mv : Value} {l : List (Nat × Value)} (S : ShAt w p o t arr nv mv l) (A : AreA l) (n : Nat) :
    Calls Tryz.prog 200 #[.pointer (some ⟨p, o, none⟩), .int .i64 n] w fun e w' => ∃ v, e = .returned v ∧
      w'.ownsRow w.heap.size 158 2 v (cutAt l n) (flat (l.take (cutAt l n))) ∧ ShTook w w' p o t arr nv mv (l.drop (cutAt l n)) := by
  obtain ⟨hbW, h0, h1, S, ht⟩ := S
  have h0s : o < arr.size := (Array.getElem?_eq_some_iff.1 h0).1
  have h1s : o + 1 < arr.size := (Array.getElem?_eq_some_iff.1 h1).1
  have c0 : w.cell? ⟨p, o, none⟩ = some nv := (blk_cell hbW).trans h0
  have hlen := S.len
  have hsr := search_any S.nums S.sorted (by simp; omega) n
  have hcut := cut_eq (n := n) S.sorted
  have hcl := cut_le l n
  have hk0 : (l.map (·.1)).countP (· < n) ≤ l.length := by have := List.countP_le_length (p := (· < n)) (l := l.map (·.1)); simpa using this
  obtain ⟨i0, hi, hz0, hz1, hz2⟩ := info_parts2 infoRA
  generalize cutAt l n = ce at *
  generalize (l.map (·.1)).countP (· < n) = k0 at *
  generalize (l.map (·.1)).contains n = c at *
  have hkl : (l.map (·.1)).length = l.length := List.length_map _
  have SS := hide S
  have HL := hide hkl
  replace hsr := hide hsr
  rcases S.nums.cases with ⟨hnv, hlz⟩ | ⟨g, cap, cur, hnv, hh, hn, hc, hz, htk⟩
  · subst hnv
    obtain rfl : l = [] := by simpa using hlz
    obtain rfl : ce = 0 := by simpa using hcl
    obtain rfl : k0 = 0 := by simpa using hk0
    have hc : c = false := by cases c <;> simp_all
    subst hc
    have hde := fun y : World => delete_any (numsAt_nil y) 0 0 (by omega) (by simp)
    simp only [show ((0 : Nat) : Int) = 0 from rfl, List.take_nil, List.drop_nil, List.nil_append] at hde
    have HDE := fun y => hide (hde y)
    clear S hkl hde hcut hk0 hcl hlz
    simp only [show ((0 : Nat) : Int) = 0 from rfl] at hsr
    go_enter Tryz.func200, Tryz.ntmps200
    go_upto_region 5 with (go_at_call 132; refine (unhide hsr).mono ?_; rintro e y ⟨rfl, q, rfl⟩)
    go_wp2
    go_loopw [5, 9, 29] (fun v5 _ i wr => v5 = .slice none 0 0 ∧ i = .int .i64 0 ∧ wr = w.drewN q) (fun _ _ i _ => 0)
    case atStart => exact ⟨rfl, rfl, rfl⟩
    case round =>
      obtain ⟨rfl, rfl, rfl⟩ := hrel
      go_upto_region 12 with fail
      refine (unhide (HDE _)).mono ?_
      rintro e z ⟨nv', rfl, N', hF', hown⟩
      obtain rfl : nv' = .slice none 0 0 := by
        rcases N'.cases with ⟨h, _⟩ | ⟨g', cap', cur', rfl, _⟩
        · exact h
        · cases hown
      have hfz : Far (fun _ => False) w z := (far_drewN (fun _ => False) w q).trans (hF'.mono (fun _ _ h => by cases h)) (fun _ _ h => h)
      have hbz := hfz.blk hbW id
      have cz := (blk_cell hbz).trans h0
      have fz : z.frozen? ⟨p, o, none⟩ = false := by simp [World.frozen?, hbz]
      replace N' := hide N'
      replace hfz := hide hfz
      clear hF' hown
      go_wp2
      go_ret
      have S0 := unhide SS
      have hE : z.setCell ⟨p, o, none⟩ (.slice none 0 0) = z.setCell ⟨p, o, none⟩ (.slice none 0 0) := rfl
      refine ⟨_, rfl, World.ownsRow_nil _ _ _ _, ⟨_, ⟨blk_set hbz, by simp [h0s], by rw [Array.getElem?_setIfInBounds_ne (by omega)]; exact h1, ⟨numsAt_nil _, (S0.far (unhide hfz) (fun _ _ h => h)).map.keep (fun b hb' => blk_set_ne (fun e => ?_)), by simp, by simp⟩, ht⟩, rfl⟩, ((unhide hfz).mono (fun _ _ h => h.elim)).trans (far_set z p o _) (fun _ _ h => .inl h)⟩
      exact S0.ne hbW ht (.inr (by rw [hb', e]))
  · rw [hkl] at hnv hn
    subst hnv
    have N0 := hide S.nums
    cases c
    all_goals
      simp only [if_true, if_false, Bool.false_eq_true, Nat.add_zero] at hcut
      clear S htk hkl
      try (rw [hcut] at hsr)
      have hcI : ((k0 : Int) + 1 = (ce : Int)) = ((k0 : Int) + 1 = (ce : Int)) := rfl
      try (have hcI : (k0 : Int) + 1 = ce := by omega)
      replace hcut := hide hcut
      go_enter Tryz.func200, Tryz.ntmps200
      go_upto_region 5 with (go_at_call 132; refine (unhide hsr).mono ?_; rintro e y ⟨rfl, q, rfl⟩)
    all_goals
      go_wp2
      go_loopw [5, 9, 29] (fun v5 _ i wr => ∃ k : Nat, k ≤ ce ∧ i = .int .i64 k ∧ wr.ownsRow w.heap.size 158 2 v5 k (flat (l.take k)) ∧ wr.heap[p]? = some (.cells arr t (0, 0)) ∧ NumsAt wr (.slice (some ⟨g, 0, none⟩) l.length cap) (l.map (·.1)) ∧ MapV wr mv (look (l.drop k)) ∧ Far (fun b => mapBlock mv = some b) w wr) (fun _ _ i _ => l.length - (intOf i).toNat)
      case atStart => exact ⟨0, by omega, rfl, World.ownsRow_nil _ _ _ _, hbW, (unhide SS).nums, by rw [List.drop_zero]; exact (unhide SS).map, far_drewN _ w q⟩
      case round =>
        obtain ⟨k, hk, rfl, ho, hb, N, M, hf⟩ := hrel
        by_cases hlt : k < ce
        · have hkl : k < l.length := by omega
          obtain ⟨b, pl, hx⟩ := A l[k] (List.getElem_mem hkl)
          have hdr : l.drop k = l[k] :: l.drop (k + 1) := List.drop_eq_getElem_cons hkl
          have hlk : look (l.drop k) (l[k].1 : Int) = some l[k].2 := by rw [hdr, look_cons, if_pos rfl]
          have hsorted := (unhide SS).sorted
          have hgt : ∀ y ∈ l.drop (k + 1), l[k].1 < y.1 := fun y hy => by
            have h1 : ((l.drop k).map (·.1)).Pairwise (· < ·) := by rw [List.map_drop]; exact hsorted.drop
            rw [hdr, List.map_cons, List.pairwise_cons] at h1
            exact h1.1 y.1 (List.mem_map.2 ⟨y, hy, rfl⟩)
          have hdel := del_look hgt
          rw [← hdr] at hdel
          have htake : flat (l.take (k + 1)) = flat (l.take k) ++ vcells l[k].2 := by rw [← flat_snoc, List.take_add_one, List.getElem?_eq_getElem hkl]; rfl
          have c0 := (blk_cell hb).trans h0
          have c1 := (blk_cell hb).trans h1
          have cn : wr.cell? ⟨g, k, none⟩ = some (.int .i64 (l[k].1 : Int)) := by
            rw [N.cell' (by simpa using hkl)]
            simp [List.getD_eq_getElem?_getD, hkl]
          rcases M with ⟨rfl, hM⟩ | ⟨mb, rfl, hM⟩
          · rw [hM] at hlk; cases hlk
          have hrun := (run_lookup_i (P := Tryz.prog) (w := wr) (t := 137) Tryz.underlying137 Tryz.underlying3 (zero_A wr) (.inr ⟨mb, rfl, hM⟩) (l[k].1 : Int)).2
          rw [hlk, hx] at hrun
          rw [hx] at htake
          simp only [Option.getD_some, recA] at hrun
          have HT := hide htake
          have HD := hide hdel
          have HO := hide ho
          have HN := hide N
          have HM := hide hM
          have HF := hide hf
          have HX := hide hx
          clear ho N hM hf htake hdel hlk hx hdr hgt hsorted
          generalize hxn : l[k].1 = xn at *
          replace hxn := hide hxn
          have hsz := (unhide HF).size
          have hmb : mb < w.heap.size := (unhide SS).map.lt mb rfl
          have hpw := lt_of_block hbW
          have hk5 := fun g' (hg' : u5.ownBlock = some g') => World.ownsRow.lt (unhide HO) g' hg'
          go_upto_region 9 with (at_builtin; refine wpList_append_own _ rfl (.tmp 33) (.tmp 40) 272 rfl w.heap.size 158 i0 (.agg #[.string ⟨#[]⟩, .int .i64 0]) 2 24 Tryz.underlying272 hi hz0 hz1 hz2 rfl (by decide) u5 k (flat (l.take k)) rfl ((unhide HO).alloc _) ⟨wr.heap.size, 0, none⟩ 1 1 (vcells (recA b pl)) rfl rfl cells_new (by intro u hu; simp [vcells, recA] at hu; first | (rcases hu with rfl | rfl <;> rfl) | (subst hu; rfl)) (by unfold maxLen; omega) (by omega) (by simp; omega) ?_; intro v' w1 hown' hgrow _; have hb1 : Below w.heap.size wr w1 := ((Below.refl _ wr).alloc hsz _).trans (below_grown_new (B := w.heap.size) hgrow (by simp; omega) (fun g' hg' => (hk5 g' hg').1)); obtain ⟨ob, hU, hM1⟩ := run_delete_i (P := Tryz.prog) (w := w1) (t := 137) (K' := 3) Tryz.underlying137 Tryz.underlying3 ((unhide HM).keep (hb1.block mb hmb)) xn; have hU2 := fun ty => hU ty w1 rfl; have hp1 := (hb1.block p hpw).trans hb; have c1' := (blk_cell hp1).trans h1; replace hown' := hide hown'; replace hM1 := hide hM1; replace hb1 := hide hb1; clear hgrow hU)
          go_wp2
          have hpm : p ≠ mb := fun e => (unhide HM).not_cells (by rw [← e]; exact hb)
          have hnm := (unhide HN).notMap (unhide HM)
          have hg := (World.ownsRow.lt (unhide HN) g rfl).2
          have hgw : g < w.heap.size := lt_of_block hh
          have hW := far_block (w := w1) mb ob
          have hN1 := (unhide HN).keep (w' := { w1 with heap := w1.heap.setIfInBounds mb ob }) (fun g' hg' => by
            cases hg'
            exact (hW.rest g (Nat.lt_of_lt_of_le hgw (Nat.le_trans hsz (unhide hb1).size)) (fun e => hnm (by rw [e]; rfl))).trans ((unhide hb1).block g hgw))
          have ho1 := ownsRow_keep2 (w' := { w1 with heap := w1.heap.setIfInBounds mb ob }) (unhide hown') (fun g' hg' => hW.rest g' (World.ownsRow.lt (unhide hown') g' hg').2 (fun e => by have := (World.ownsRow.lt (unhide hown') g' hg').1; omega))
          refine ⟨⟨k + 1, by omega, by go_num, by rw [unhide HT]; exact ho1, (hW.rest p (lt_of_block hp1) hpm).trans hp1, hN1, .inr ⟨mb, rfl, by rw [← unhide HD]; exact unhide hM1⟩,
            ((unhide HF).behind (unhide hb1)).trans hW (fun _ _ h => by rw [h]; rfl)⟩, by simp [intOf]; omega⟩
        · obtain rfl : k = ce := by omega
          have HO := hide ho
          have HN := hide N
          have HM := hide M
          have HF := hide hf
          have hll : (l.map (·.1)).length = l.length := List.length_map _
          have hgp : g ≠ p := fun e => (RowO.of_own N).ne hb (fun e => ht e.symm) (by rw [← e]; rfl)
          have c0 := (blk_cell hb).trans h0
          have hde := delete_any N 0 k (by omega) (by omega)
          rw [show ((0 : Nat) : Int) = 0 from rfl, List.take_zero, List.nil_append, ← List.map_drop] at hde
          replace hde := hide hde
          clear ho N M hf hll
          go_upto_region 12 with fail
          refine (unhide hde).mono ?_
          rintro e z ⟨nv', rfl, N', hF', hown⟩
          have hbz := hF'.blk hb (fun e => hgp (by cases e; rfl))
          have cz := (blk_cell hbz).trans h0
          have fz : z.frozen? ⟨p, o, none⟩ = false := by simp [World.frozen?, hbz]
          have hlk : (List.map (fun x => x.1) (List.drop k l)).length = l.length - k := by simp
          have hsh := (RowO.of_own N').shape
          rw [hlk] at hsh
          obtain ⟨ad', cap', rfl, _⟩ := hsh
          replace hlk := hide hlk
          replace N' := hide N'
          replace hown := hide hown
          replace hF' := hide hF'
          go_wp2
          go_ret
          have S0 := unhide SS
          have hfar : Far (fun b => b = p ∨ ShU (.slice (some ⟨g, 0, none⟩) l.length cap) mv b) w z := ((unhide HF).mono (fun _ _ h => .inr (.inr h))).trans (unhide hF') (fun _ _ h => .inr (.inl h))
          have hkeep : ∀ b, b ≠ p → (z.setCell ⟨p, o, none⟩ (.slice ad' (l.length - k) cap')).heap[b]? = z.heap[b]? := fun b hb => blk_set_ne hb
          have hmz : ∀ b, mapBlock mv = some b → b ≠ p ∧ z.heap[b]? = wr.heap[b]? := fun b hb' => by
            rcases unhide HM with ⟨h, _⟩ | ⟨b', h, hM'⟩
            · rw [h] at hb'; cases hb'
            · rw [h] at hb'; cases hb'
              exact ⟨fun e => hM'.not_cells (by rw [e]; exact hb), (unhide hF').rest b hM'.lt (fun e => (unhide HN).notMap hM' e)⟩
          refine ⟨_, rfl, ownsRow_keep2 (unhide HO) (fun g' hg' => ?_), ⟨_, ⟨blk_set hbz, by simp [h0s], by rw [Array.getElem?_setIfInBounds_ne (by omega)]; exact h1, ⟨(unhide N').keep (fun g' hg' => hkeep g' ?_), (unhide HM).keep (fun b hb' => (hkeep b (hmz b hb').1).trans (hmz b hb').2), by rw [List.map_drop]; exact S0.sorted.drop, by rw [List.length_drop]; omega⟩, ht⟩, unhide hown⟩, hfar.trans (far_set z p o _) (fun _ _ h => .inl h)⟩
          · have hg5 := World.ownsRow.lt (unhide HO) g' hg'
            have hpw := lt_of_block hbW
            have hgw := lt_of_block hh
            exact (hkeep g' (by omega)).trans ((unhide hF').rest g' hg5.2 (fun e => by have e2 : g = g' := Option.some.inj e; omega))
          · rw [unhide hown] at hg'
            cases hg'
            exact hgp

end Go.Proofs.YtamafdcnbcoegaaGreat
namespace Go.Proofs.YtamafdcnbcoegaaGreat
open Go.RowKit

/-- A whole struct from wherever its cells stand. -/
theorem run_loadVar_at {P : Program} (w : World) (a : Addr) (ty : TypeId) (cs : List Value) (hc : ∀ j v, cs[j]? = some v → w.cell? (a.add j) = some v)
    (hagg : (isAgg ty).run P w = .ok true w) (hi : (P.info? ty).map (·.size) = some cs.length) :
    (loadVar ty a).run P w = .ok (.agg cs.toArray) w := by
  have hl : (loadCells a cs.length).run P w = .ok cs.toArray w := run_loadCells_list (P := P) w a cs hc
  cases hq : P.info? ty with
  | none => simp [hq] at hi
  | some i =>
    have hs : i.size = cs.length := by simpa [hq] using hi
    simp [loadVar, Sem.run_bind, hagg, sizeOf, typeInfo, hq, hs, hl]
theorem isAgg_write (w : World) : (isAgg 261).run Tryz.prog w = .ok true w := by
  simp [isAgg, run_underlying Tryz.underlying261]
theorem size_write : (Tryz.prog.info? 261).map (·.size) = some 65 := by kernel_rfl
theorem wpList_load_write {ops : Array Oper} {rest : List Oper} {o : Oper} {a : Act} {w : World} {Q : Exit → Act → World → Prop} (hgd : o.guard = none) (x : Operand) (ho : o.op = .load 261 x)
    (ad : Addr) (hx : a.eval x = .pointer (some ad)) (cs : List Value) (hcs : cs.length = 65) (hc : ∀ j v, cs[j]? = some v → w.cell? (ad.add j) = some v)
    (h : wpList Tryz.prog ops Q rest (a.put o.dst (.agg cs.toArray)) w) : wpList Tryz.prog ops Q (o :: rest) a w := by
  refine wpList_plain hgd fun K hK => ?_
  unfold Oper.wp execOp
  simp only [ho, hx, Instr.loadAt, Instr.sureAddr, Sem.run_bind, Sem.run_pure, Result.andThen_ok, run_loadVar_at w ad 261 cs hc (isAgg_write w) (by rw [size_write, hcs])]
  exact hK _ _ h
theorem oper_load_write {o : Oper} {a : Act} {w : World} {K : Act → World → Prop} {Q : Exit → Act → World → Prop} (x : Operand) (ho : o.op = .load 261 x)
    (ad : Addr) (hx : a.eval x = .pointer (some ad)) (cs : List Value) (hcs : cs.length = 65) (hc : ∀ j v, cs[j]? = some v → w.cell? (ad.add j) = some v)
    (h : K (a.put o.dst (.agg cs.toArray)) w) : o.wp Tryz.prog a w K Q := by
  unfold Oper.wp execOp
  simp only [ho, hx, Instr.loadAt, Instr.sureAddr, Sem.run_bind, Sem.run_pure, Result.andThen_ok, run_loadVar_at w ad 261 cs hc (isAgg_write w) (by rw [size_write, hcs])]
  exact h

/-- Sync, on a disk that has failed. -/
theorem sync_dead (w : World) (p : Nat) (lv uv : Value) (n : Int) (hb : w.heap[p]? = some (.cells #[lv, uv, .int .i64 n, .bool true] 252 (0, 0))) :
    Calls Tryz.prog 183 #[.pointer (some ⟨p, 0, none⟩)] w fun r w' => r = .returned (.tuple #[]) ∧ w' = w := by
  have c3 : w.cell? ⟨p, 3, none⟩ = some (.bool true) := blk_cell (i := 3) hb
  clear hb
  go_enter Tryz.func183, Tryz.ntmps183
  go_wp2
  exact bodyPost_ret (results_none rfl _ _ _) rfl ⟨rfl, rfl⟩

/-- In the midst of Sync: how far. -/
structure SyAt (w x : World) (p : Nat) (lv : Value) (g o cap : Nat) (n : Int) (cs : List Value) (L : List UInt8) : Prop where
  blk : x.heap[p]? = some (.cells #[lv, .slice (some ⟨g, o, none⟩) 1 cap, .int .i64 n, .bool false] 252 (0, 0))
  un : RowO x 261 65 (.slice (some ⟨g, o, none⟩) 1 cap) 1 cs
  row : x.ownsRow 0 5 1 lv L.length (bv L)
  far : Far (fun j => lv.ownBlock = some j) w x

set_option maxRecDepth 100000 in
set_option maxHeartbeats 4000000 in
theorem sync_one (w : World) (p : Nat) (lv uv : Value) (n : Int) (k : Nat) (S L : List UInt8) (hS : S.length = 64) (hk : 64 * k + 64 ≤ L.length) (hL : L.length ≤ 10000)
    (hb : w.heap[p]? = some (.cells #[lv, uv, .int .i64 n, .bool false] 252 (0, 0))) (hu : RowO w 261 65 uv 1 (.int .i64 k :: bv S)) (hr : w.ownsRow 0 5 1 lv L.length (bv L)) :
    Calls Tryz.prog 183 #[.pointer (some ⟨p, 0, none⟩)] w fun r w' => r = .returned (.tuple #[]) ∧
      ∃ uv', w'.heap[p]? = some (.cells #[lv, uv', .int .i64 n, .bool false] 252 (0, 0)) ∧ uv'.ownBlock = uv.ownBlock ∧ RowO w' 261 65 uv' 0 [] ∧
        w'.ownsRow 0 5 1 lv (Mod.setSec L k S).length (bv (Mod.setSec L k S)) ∧ Far (fun j => j = p ∨ lv.ownBlock = some j) w w' := by
  obtain ⟨cs, hcsd⟩ : ∃ cs, cs = Value.int .i64 k :: bv S := ⟨_, rfl⟩
  rw [← hcsd] at hu
  have hcs : cs.length = 65 := by rw [hcsd]; simp [bv_length, hS]
  have h1c : ∀ u ∈ cs, u.oneCell' = true := by
    rw [hcsd]
    intro u hu
    cases hu with
    | head => rfl
    | tail _ hu => exact bv_oneCell S u hu
  have HCS := hide hcsd
  clear hcsd
  obtain ⟨ad, cap, rfl, hc1, hc2, hsh⟩ := hu.shape
  obtain ⟨g, o, rfl, hcell⟩ := hsh (by omega)
  have hpl := lt_of_block hb
  have SY0 : SyAt w w p lv g o cap n cs L := ⟨hb, hu, hr, Far.refl _ _⟩
  have c3 : w.cell? ⟨p, 3, none⟩ = some (.bool false) := blk_cell (i := 3) hb
  have c1 : w.cell? ⟨p, 1, none⟩ = some (.slice (some ⟨g, o, none⟩) 1 cap) := blk_cell (i := 1) hb
  have HS0 := hide SY0
  clear hb hu hr SY0 hcell hsh
  go_enter Tryz.func183, Tryz.ntmps183
  go_upto_region 2 with fail
  go_wp2
  go_loopw [3, 13] (fun _ i wr => ∃ j : Nat, j ≤ 1 ∧ i = .int .i64 j ∧ SyAt w wr p lv g o cap n cs (if j = 0 then L else Mod.setSec L k S)) (fun _ i _ => 1 - (intOf i).toNat)
  case atStart => exact ⟨0, by omega, rfl, unhide HS0⟩
  case round =>
    obtain ⟨j, hj, rfl, SY⟩ := hrel
    clear HS0 c1 c3
    rcases (show j = 0 ∨ j = 1 by omega) with rfl | rfl
    · have SY : SyAt w wr p lv g o cap n cs L := SY
      have c0 : wr.cell? ⟨p, 0, none⟩ = some lv := blk_cell (i := 0) SY.blk
      have hcell : ∀ j v, cs[j]? = some v → wr.cell? ((⟨g, o, none⟩ : Addr).add j) = some v := by
        obtain ⟨ad', cap', e, _, _, hsh⟩ := SY.un.shape
        obtain ⟨g', o', e2, hc⟩ := hsh (by omega)
        cases e
        cases e2
        intro j v hj
        have hjl : j < 65 := by rw [← hcs]; exact (List.getElem?_eq_some_iff.1 hj).1
        rw [add_mk, hc j (by omega)]
        exact hj
      have hplr := lt_of_block SY.blk
      have HSY := hide SY
      have HC := hide hcell
      clear SY hcell
      go_upto_region 4 with (first
        | (refine wpList_load_write rfl (.tmp 15) rfl ⟨g, o, none⟩ rfl cs hcs (unhide HC) ?_)
        | (refine wpList_store_row rfl 261 (.tmp 3) (.tmp 16) rfl wr.heap.size cs.toArray rfl rfl 261 _ (heap_alloc_new _ _) (by rw [size_write]; simp [hcs]) (by simp [hcs]) (by rw [Array.all_eq_true_iff_forall_mem]; intro v hv; exact h1c v (by simpa using hv)) ?_; go_simp))
      refine wp_world (fun x => x.heap[wr.heap.size]? = some (.cells cs.toArray 261 (0, 0)) ∧ SyAt w x p lv g o cap n cs L) ?_ ?_
      · have hF : Far (fun _ => False) wr ((wr.alloc (.cells Tryz.zeroCells261 261)).setRow wr.heap.size cs.toArray) :=
          ⟨rfl, rfl, rfl, by simp, fun k hk _ => (setRow_other _ _ k _ (by omega)).trans (heap_alloc_old _ _ hk)⟩
        refine ⟨setRow_heap _ _ _ _ _ _ (heap_alloc_new _ _), hF.blk (unhide HSY).blk (fun h => h), (unhide HSY).un.far hF (fun _ _ h => h), ownsRow_keepB (unhide HSY).row (fun g hg => hF.rest g (World.ownsRow.lt (unhide HSY).row g hg).2 (fun h => h)), (unhide HSY).far.trans hF (fun _ _ h => h.elim)⟩
      rintro x ⟨hn0, SX⟩
      have cx : x.cell? ⟨p, 0, none⟩ = some lv := blk_cell (i := 0) SX.blk
      have hplx := lt_of_block SX.blk
      have hnl := lt_of_block hn0
      have HN := hide hn0
      have HSX := hide SX
      have hA := fun y hrow => hide (apply_any y k S L lv hS hk hL hrow)
      rw [← unhide HCS] at hA
      clear hn0 SX HSY HC c0
      refine wp_region_last (by kernel_rfl)
        [fun v _ => v = .agg cs.toArray, fun v _ => v = .pointer (some ⟨p, 0, none⟩), fun v _ => v = .pointer (some ⟨p, 0, none⟩), fun v _ => v = .pointer (some ⟨p, 0, none⟩), fun v _ => v = lv, fun _ _ => True]
        [[(3, none)], [(0, none)], [(18, some 1)], [(19, some 2)], [(20, some 3)], [(17, some 0), (21, some 4)]] [some 17, some 18, some 19, some 20, some 21, some 22] [false, false, false, false, false, false, false, false, false, false, false, false, false, false, false, false, false, true, true, true, true, true, true, false, false, false, false, false, false, false, false, false]
        5 _ rfl rfl (by kernel_rfl) (by kernel_rfl) (by kernel_rfl) (by kernel_rfl) (by kernel_rfl) (by kernel_rfl) ?_ ?_ ?_
      · repeat' (first | exact stable_eq _ | exact stable_true | exact trivial | apply And.intro)
      · refine ⟨?_, ?_, ?_, ?_, ?_, trivial⟩
        all_goals
          intro a y hb hf
          have y0 := (hb.cell (p := ⟨p, 0, none⟩) (by show p < _; omega)).trans cx
          have yn := (hb.block _ hnl).trans (unhide HN)
          clear hb
          simp only [PlanFacts, List.getD_cons_zero, List.getD_cons_succ, Array.getD_eq_getD_getElem?] at hf
          try simp at hf
        · rw [if_pos (by rfl)]
          refine oper_load_write (.tmp 3) rfl ⟨wr.heap.size, 0, none⟩ (by simp [Act.eval, hf]) cs hcs ?_ ⟨_, rfl, Below.refl _ _, rfl⟩
          intro j v hj
          rw [add_mk, blk_cell yn, List.getElem?_toArray, Nat.zero_add]
          exact hj
        all_goals
          clear yn
          go_simp
          try exact ⟨_, rfl, Below.refl _ _, rfl⟩
          try exact Below.refl _ _
      · intro f y hb hwd
        simp only [AllWords, List.take] at hwd
        have hf17 := hwd.1
        have hf21 := hwd.2.2.2.2.1
        simp only [mergeT, hf17, hf21]
        have SY : SyAt w y p lv g o cap n cs L := by
          have SX := unhide HSX
          exact ⟨(hb.block _ hplx).trans SX.blk, SX.un.keep (fun g hg => hb.block g (SX.un.lt g hg)), ownsRow_keepB SX.row (fun g hg => hb.block g (World.ownsRow.lt SX.row g hg).2), SX.far.trans (far_below (E := fun _ => False) hb) (fun _ _ h => h.elim)⟩
        have HY := hide SY
        clear hb hwd hf17 hf21 SY HSX HN cx
        go_simp
        refine (unhide (hA y (unhide HY).row)).mono ?_
        rintro r z ⟨rfl, hrz, hFz⟩
        have SY := unhide HY
        have hne : ∀ h, lv.ownBlock = some h → h ≠ p := fun h hh e => (RowO.of_own SY.row).ne SY.blk (by decide) (by rw [hh, e])
        have SZ : SyAt w z p lv g o cap n cs (Mod.setSec L k S) :=
          ⟨hFz.blk SY.blk (fun e => hne _ e rfl), SY.un.far hFz (fun h hh e => (RowO.of_own SY.row).ty SY.un (by decide) e hh), hrz, SY.far.trans hFz (fun _ _ h => h)⟩
        have HZ := hide SZ
        clear SY SZ hrz hFz HY hA hne
        go_wp2
        exact ⟨⟨1, by omega, by go_num, unhide HZ⟩, by simp [intOf]⟩
    · have SY : SyAt w wr p lv g o cap n cs (Mod.setSec L k S) := SY
      have c1 : wr.cell? ⟨p, 1, none⟩ = some (.slice (some ⟨g, o, none⟩) 1 cap) := blk_cell (i := 1) SY.blk
      have f1 : wr.frozen? ⟨p, 1, none⟩ = false := blk_free (i := 1) SY.blk
      have HSY := hide SY
      clear SY
      go_wp2
      refine bodyPost_end (results_none rfl _ _ _) rfl ⟨rfl, ?_⟩
      have SZ := unhide HSY
      have hfs := far_set wr p 1 (.slice (some ⟨g, o, none⟩) 0 cap)
      refine ⟨.slice (some ⟨g, o, none⟩) 0 cap, ?_, rfl, ?_, ownsRow_keepB SZ.row (fun h hh => hfs.rest h (World.ownsRow.lt SZ.row h hh).2 (fun e => (RowO.of_own SZ.row).ne SZ.blk (by decide) (by rw [hh, e]))), ?_⟩
      · have := blk_set (j := 1) (v := .slice (some ⟨g, o, none⟩) 0 cap) SZ.blk
        simpa using this
      · have h0 := SZ.un.far hfs (fun h hh e => SZ.un.ne SZ.blk (by decide) (by rw [hh, e]))
        obtain ⟨_, h2⟩ := h0
        rcases h2 with ⟨h2, _⟩ | ⟨g', o', cap', cur, e1, hh, hn', hc', hz', ht'⟩
        · cases h2
        · cases e1
          exact ⟨by simp, .inr ⟨g, o, cap, cur, rfl, hh, Nat.zero_le _, hc2, hz', by simp⟩⟩
      · exact (SZ.far.mono (fun _ _ h => .inr h)).trans hfs (fun _ _ h => .inl h)
end Go.Proofs.YtamafdcnbcoegaaGreat
namespace Go.Proofs.YtamafdcnbcoegaaGreat
open Go.RowKit

set_option maxRecDepth 100000 in
set_option maxHeartbeats 2000000 in
theorem storeWrite_gen (w : World) (s dp k : Nat) (S : List UInt8) (hS : S.length = 64) (e : Int) (R R2 : World → Prop) (E : Nat → Prop)
    (hs : ∀ y, Below w.heap.size w y ∨ R y → y.cell? ⟨s, 0, none⟩ = some (ptrTo dp))
    (hW : ∀ y, Below w.heap.size w y → Calls Tryz.prog 182 #[ptrTo dp, .int .i64 k, .agg (bv S).toArray] y fun r w' => r = .returned (.int .i64 e) ∧ R w' ∧ Far E y w')
    (hRb : ∀ y z, R y → Below y.heap.size y z → R z)
    (hY : ∀ y, R y → Calls Tryz.prog 183 #[ptrTo dp] y fun r w' => r = .returned (.tuple #[]) ∧ R2 w') :
    Calls Tryz.prog 130 #[ptrTo s, .int .i64 k, .agg (bv S).toArray] w fun r w' => r = .returned (.int .i64 e) ∧ R2 w' := by
  unfold ptrTo at *
  have HS := hide hs
  have HW := hide hW
  have HY := hide hY
  clear hs hW hY
  go_enter Tryz.func130, Tryz.ntmps130
  go_upto_region 1 with fail
  refine wp_world (fun x => x.heap[w.heap.size]? = some (.cells (bv S).toArray 207 (0, 0)) ∧ Below w.heap.size w x) ⟨heap_alloc_new w _, (Below.refl _ _).alloc (Nat.le_refl _) _⟩ ?_
  rintro x ⟨h0, hB⟩
  have hz := lt_of_block h0
  have H0 := hide h0
  have HB := hide hB
  clear h0 hB
  refine wp_region_foot (by kernel_rfl)
    [fun v _ => v = .pointer (some ⟨s, 0, none⟩), fun v _ => v = .pointer (some ⟨s, 0, none⟩), fun v _ => v = .pointer (some ⟨s, 0, none⟩), fun v _ => v = .pointer (some ⟨dp, 0, none⟩), fun v _ => v = .int .i64 k, fun v _ => v = .agg (bv S).toArray, fun v y => v = .int .i64 e ∧ R y, fun v _ => v = .int .i64 e]
    [[(0, none)], [(8, some 0)], [(9, some 1)], [(10, some 2)], [(1, none)], [(5, none)], [(11, some 3), (12, some 4), (13, some 5)], [(14, some 6)]] [some 8, some 9, some 10, some 11, some 12, some 13, some 14, some 7] [false, false, false, false, false, false, false, true, true, true, true, true, true, true, true, false, false, false, false, false, false]
    [(6, E)]
    (by kernel_rfl) (by kernel_rfl) (by kernel_rfl) (by kernel_rfl) (by kernel_rfl) ?_ ?_ ?_ ?_
  · repeat' (first | exact stable_eq _ | exact (fun _ y z h hb => ⟨h.1, hRb y z h.2 hb⟩) | exact trivial | apply And.intro)
  · repeat' (first | exact trivial | exact .inl rfl | exact .inr (.inr (stableF_eq _ _)) | apply And.intro)
  · refine ⟨?_, ?_, ?_, ?_, ?_, ?_, ?_, ?_, trivial⟩
    all_goals
      intro a z hb hf
      simp only [PlanFacts, List.getD_cons_zero, List.getD_cons_succ, Array.getD_eq_getD_getElem?] at hf
      try simp at hf
    · go_simp
      exact ⟨_, rfl, Far.refl _ _, rfl⟩
    · go_simp
      exact ⟨_, rfl, Far.refl _ _, rfl⟩
    · go_simp
      exact ⟨_, rfl, Far.refl _ _, rfl⟩
    · have hbz : Below w.heap.size w z := (unhide HB).trans ((hb.below (B := x.heap.size) (Nat.le_refl _) (by
        rintro j hj ⟨q, hq, g1, g2, g3⟩
        simp at hq
        subst hq
        exact absurd (show depB _ 6 3 = false from g2) (by decide +kernel))).mono (unhide HB).size)
      have c0 := (unhide HS) z (.inl hbz)
      clear hbz
      go_simp
      exact ⟨_, rfl, Far.refl _ _, rfl⟩
    · go_simp
      exact ⟨_, rfl, Far.refl _ _, rfl⟩
    · have d1 := hb.blk (unhide H0) (by
        rintro ⟨q, hq, g1, g2, g3⟩
        simp at hq
        subst hq
        exact absurd (show depB _ 6 5 = false from g2) (by decide +kernel))
      rw [if_pos (by rfl)]
      refine oper_load_sec (.tmp 5) rfl w.heap.size (by simp [Act.eval, hf]) 207 S hS d1 ?_
      exact ⟨_, rfl, Far.refl _ _, rfl⟩
    · have hbz : Below w.heap.size w z := (unhide HB).trans ((hb.below (B := x.heap.size) (Nat.le_refl _) (by
        rintro j hj ⟨q, hq, g1, g2, g3⟩
        simp at hq
        subst hq
        exact g1 rfl)).mono (unhide HB).size)
      have HC := hide ((unhide HW) z hbz)
      clear hbz
      go_simp
      refine (unhide HC).mono ?_
      rintro r w1 ⟨rfl, hR, hF⟩
      exact ⟨_, rfl, footOf_of (.head _) hF, rfl, hR⟩
    · obtain ⟨hf, _⟩ := hf
      go_simp
      exact ⟨_, rfl, Far.refl _ _, rfl⟩
  · intro f z hF hwd
    have h6 := hwd.2.2.2.2.2.2.1
    have h7 := hwd.2.2.2.2.2.2.2.1
    have HR := hide h6.2
    have c0 := (unhide HS) z (.inr h6.2)
    have HC := hide ((unhide HY) z h6.2)
    clear hwd hF h6
    simp only [mergeT, h7]
    generalize f 8 = x8
    generalize f 9 = x9
    generalize f 10 = x10
    generalize f 11 = x11
    generalize f 12 = x12
    generalize f 13 = x13
    generalize f 14 = x14
    go_simp
    go_wp2_with (go_at_call 183; refine (unhide HC).mono ?_; rintro r u ⟨rfl, hR2⟩)
    go_ret
    exact ⟨rfl, hR2⟩

theorem dk_ne {w : World} {dp s : Nat} {d : Mod.Dk} {lv uv : Value} (D : DkAt w dp d lv uv) {c : Array Value} {t : TypeId} {fr : Nat × Nat} (hs : w.heap[s]? = some (.cells c t fr)) (h1 : 252 ≠ t) (h2 : 5 ≠ t) (h3 : 261 ≠ t) : ¬ DkU dp lv uv s := by
  rintro (h | h | h)
  · subst h
    have := D.blk
    rw [hs] at this
    injection this with this
    injection this with _ this _
    exact h1 this.symm
  · exact (RowO.of_own D.row).ne hs h2 h
  · exact D.un.ne hs h3 h

set_option maxHeartbeats 1000000 in
/-- write: a sector is written and synced. -/
theorem storeWrite_any (w : World) (s dp : Nat) (lv uv a b c : Value) (d : Mod.Dk) (k : Nat) (S : List UInt8) (hS : S.length = 64) (hk : 64 * k + 64 ≤ d.bytes.length)
    (hs : w.heap[s]? = some (.cells #[ptrTo dp, a, b, c] 203 (0, 0))) (D : DkAt w dp d lv uv) :
    Calls Tryz.prog 130 #[ptrTo s, .int .i64 k, .agg (bv S).toArray] w fun r w' => r = .returned (.int .i64 (d.put k S).1) ∧
      ∃ uv', DkAt w' dp (d.put k S).2 lv uv' ∧ Loc w uv uv' ∧ Far (DkU dp lv uv) w w' := by
  have hsd := dk_ne D hs (by decide) (by decide) (by decide)
  have hlt := D.lt
  have c0 : ∀ y, Far (DkU dp lv uv) w y → y.cell? ⟨s, 0, none⟩ = some (ptrTo dp) := fun y hF => blk_cell (i := 0) (hF.blk hs hsd)
  by_cases hd : d.dead = true
  · rw [Mod.Dk.put, if_pos hd]
    have hb := D.blk
    rw [hd] at hb
    refine (storeWrite_gen w s dp k S hS 3 (fun y => Below w.heap.size w y) (fun y => Below w.heap.size w y) (fun _ => False) ?_ ?_ ?_ ?_).mono ?_
    · rintro y (h | h)
      · exact c0 y (far_below h)
      · exact c0 y (far_below h)
    · intro y hy
      refine (diskWrite_dead y dp lv uv d.armed k S ((hy.block _ (lt_of_block hb)).trans hb)).mono ?_
      rintro r z ⟨rfl, hz⟩
      exact ⟨rfl, hy.trans (hz.mono hy.size), far_below hz⟩
    · exact fun y z h hb => h.trans (hb.mono h.size)
    · intro y hy
      refine (sync_dead y dp lv uv d.armed ((hy.block _ (lt_of_block hb)).trans hb)).mono ?_
      rintro r z ⟨rfl, rfl⟩
      exact ⟨rfl, hy⟩
    · rintro r y ⟨rfl, hy⟩
      exact ⟨rfl, uv, D.far (far_below (E := fun _ => False) hy) (fun _ _ h => h), .inr (.inl rfl), far_below hy⟩
  · have hd : d.dead = false := by cases h : d.dead with | true => exact absurd h hd | false => rfl
    have hb := D.blk
    rw [hd] at hb
    by_cases ha : d.armed = 1
    · rw [Mod.Dk.put, if_neg (by simp [hd]), if_pos ha]
      rw [ha] at hb
      refine (storeWrite_gen w s dp k S hS 4 (fun y => y.heap[dp]? = some (.cells #[lv, uv, .int .i64 1, .bool true] 252 (0, 0)) ∧ Far (fun j => j = dp) w y) (fun y => y.heap[dp]? = some (.cells #[lv, uv, .int .i64 1, .bool true] 252 (0, 0)) ∧ Far (fun j => j = dp) w y) (fun j => j = dp) ?_ ?_ ?_ ?_).mono ?_
      · rintro y (h | h)
        · exact c0 y (far_below h)
        · exact c0 y (h.2.mono (fun _ _ e => .inl e))
      · intro y hy
        refine (diskWrite_fail y dp lv uv k S ((hy.block _ (lt_of_block hb)).trans hb)).mono ?_
        rintro r z ⟨rfl, hz, hF⟩
        exact ⟨rfl, ⟨hz, (far_below (E := fun j => j = dp) hy).trans hF (fun _ _ h => h)⟩, hF⟩
      · exact fun y z h hb => ⟨(hb.block _ (lt_of_block h.1)).trans h.1, h.2.trans (far_below (E := fun _ => False) hb) (fun _ _ h => h.elim)⟩
      · intro y hy
        refine (sync_dead y dp lv uv 1 hy.1).mono ?_
        rintro r z ⟨rfl, rfl⟩
        exact ⟨rfl, hy⟩
      · rintro r y ⟨rfl, hy, hF⟩
        refine ⟨rfl, uv, ⟨by rw [ha]; exact hy, ownsRow_keepB D.row (fun g hg => hF.rest g (World.ownsRow.lt D.row g hg).2 (fun e => (RowO.of_own D.row).ne hb (by decide) (by rw [hg, e]))), D.un.far hF (fun g hg e => D.un.ne hb (by decide) (by rw [hg, e])), D.len, D.arm⟩, .inr (.inl rfl), hF.mono (fun _ _ e => .inl e)⟩
    · rw [Mod.Dk.put, if_neg (by simp [hd]), if_neg ha]
      have huv := D.un.ne hb (by decide)
      have hlr := (RowO.of_own D.row).ne hb (by decide)
      refine (storeWrite_gen w s dp k S hS 0 (fun y => PutW w dp lv uv (d.armed - 1 : Nat) (.int .i64 k :: bv S) y ∧ Far (fun j => j = dp ∨ uv.ownBlock = some j) w y)
        (fun y => ∃ uv', DkAt y dp { bytes := Mod.setSec d.bytes k S, armed := d.armed - 1, dead := false } lv uv' ∧ Loc w uv uv' ∧ Far (DkU dp lv uv) w y) (fun j => j = dp ∨ uv.ownBlock = some j) ?_ ?_ ?_ ?_).mono ?_
      · rintro y (h | h)
        · exact c0 y (far_below h)
        · exact c0 y (h.2.mono (fun _ _ e => e.elim .inl (fun e => .inr (.inr e))))
      · intro y hy
        refine (diskWrite_ok y dp lv uv d.armed k S hS ha D.arm ((hy.block _ (lt_of_block hb)).trans hb) (D.un.keep (fun g hg => hy.block g (D.un.lt g hg)))).mono ?_
        rintro r z ⟨rfl, ⟨v, g1, g2, g3, g4⟩, hF⟩
        exact ⟨rfl, ⟨⟨v, g1, g2, loc_less g3 hy.size, Nat.le_trans hy.size g4⟩, (far_below (E := fun j => j = dp ∨ uv.ownBlock = some j) hy).trans hF (fun _ _ h => h)⟩, hF⟩
      · exact fun y z h hb => ⟨stable_putW w dp lv uv _ _ undef y z h.1 hb, h.2.trans (far_below (E := fun _ => False) hb) (fun _ _ h => h.elim)⟩
      · rintro y ⟨⟨v, g1, g2, g3, g4⟩, hF⟩
        have hrow := ownsRow_keepB D.row (w' := y) (fun g hg => hF.rest g (World.ownsRow.lt D.row g hg).2 (by
          rintro (e | e)
          · exact hlr (by rw [hg, e])
          · exact (RowO.of_own D.row).ty D.un (by decide) hg e))
        refine (sync_one y dp lv v _ k S d.bytes hS hk D.len.2 g1 g2 hrow).mono ?_
        rintro r z ⟨rfl, uv', k1, k2, k3, k4, k5⟩
        refine ⟨rfl, uv', ⟨k1, k4, k3, by rw [Mod.length_setSec hS hk]; exact D.len, by have := D.arm; show d.armed - 1 ≤ _; omega⟩, ?_, ?_⟩
        · rcases g3 with g3 | g3 | ⟨g, g3, g5⟩
          · exact .inl (by rw [k2]; exact g3)
          · exact .inr (.inl (by rw [k2]; exact g3))
          · exact .inr (.inr ⟨g, by rw [k2]; exact g3, g5⟩)
        · refine (hF.mono (fun _ _ e => e.elim .inl (fun e => .inr (.inr e)))).trans k5 (fun j _ e => e.elim .inl (fun e => .inr (.inl e)))
      · rintro r y ⟨rfl, h⟩
        exact ⟨rfl, h⟩
end Go.Proofs.YtamafdcnbcoegaaGreat
namespace Go.Proofs.YtamafdcnbcoegaaGreat
open Go.RowKit

/-- A store and its disk. -/
structure StAt (w : World) (s dp : Nat) (st : Mod.Stv) (lv uv : Value) : Prop where
  blk : w.heap[s]? = some (.cells #[ptrTo dp, .int .u32 st.opening, .int .u64 st.count, .int .i64 st.head] 203 (0, 0))
  dk : DkAt w dp st.dk lv uv
  op : st.opening < 4294967296
  ct : st.count < 18446744073709551616
  hd : st.head ≤ 1
def StU (s dp : Nat) (lv uv : Value) (k : Nat) : Prop := k = s ∨ DkU dp lv uv k
theorem StAt.sep {w : World} {s dp : Nat} {st : Mod.Stv} {lv uv : Value} (h : StAt w s dp st lv uv) : ¬ DkU dp lv uv s := dk_ne h.dk h.blk (by decide) (by decide) (by decide)
theorem StAt.far {E : Nat → Prop} {w x : World} {s dp : Nat} {st : Mod.Stv} {lv uv : Value} (h : StAt w s dp st lv uv) (hf : Far E w x) (hE : ∀ k, StU s dp lv uv k → ¬ E k) : StAt x s dp st lv uv :=
  ⟨hf.blk h.blk (hE s (.inl rfl)), h.dk.far hf (fun k hk => hE k (.inr hk)), h.op, h.ct, h.hd⟩
theorem StAt.lt {w : World} {s dp : Nat} {st : Mod.Stv} {lv uv : Value} (h : StAt w s dp st lv uv) : ∀ k, StU s dp lv uv k → k < w.heap.size := by
  rintro k (rfl | hk)
  · exact lt_of_block h.blk
  · exact h.dk.lt k hk

set_option maxRecDepth 100000 in
set_option maxHeartbeats 2000000 in
theorem writeNumbers_any (w : World) (s dp : Nat) (st : Mod.Stv) (lv uv : Value) (H : StAt w s dp st lv uv) (a b d : Nat) (ha : a < 4294967296) (hb : b < 4294967296) (hd : d < 4294967296) :
    Calls Tryz.prog 149 #[ptrTo s, .agg #[.int .i64 a, .int .i64 b, .int .i64 d]] w fun r w' => r = .returned (.int .i64 (st.putNumbers a b d).1) ∧
      ∃ uv', StAt w' s dp (st.putNumbers a b d).2 lv uv' ∧ Loc w uv uv' ∧ Far (StU s dp lv uv) w w' := by
  have hsl := lt_of_block H.blk
  have hnext : st.next < 18446744073709551616 := Nat.mod_lt _ (by omega)
  have hlen := H.dk.len
  have hk : 64 * (1 - st.head) + 64 ≤ st.dk.bytes.length := by omega
  have hS3 := Mod.length_sealB st.opening st.next (inside := Mod.headIn a b d) (by rw [Mod.length_headIn]; omega)
  have hh := H.hd
  have HH := hide H
  unfold ptrTo at *
  go_enter Tryz.func149, Tryz.ntmps149
  have hb0 := fun ob => (heap_alloc_old w ob hsl).trans H.blk
  have c1 : ∀ ob, (w.alloc ob).cell? ⟨s, 3, none⟩ = some (.int .i64 st.head) := fun ob => blk_cell (i := 3) (hb0 ob)
  have c2 : ∀ ob, (w.alloc ob).cell? ⟨s, 2, none⟩ = some (.int .u64 st.count) := fun ob => blk_cell (i := 2) (hb0 ob)
  have d1 : w.cell? ⟨s, 3, none⟩ = some (.int .i64 st.head) := blk_cell (i := 3) H.blk
  have d2 : w.cell? ⟨s, 2, none⟩ = some (.int .u64 st.count) := blk_cell (i := 2) H.blk
  have f1 : ∀ ob, (w.alloc ob).frozen? ⟨s, 3, none⟩ = false := fun ob => blk_free (i := 3) (hb0 ob)
  have f2 : ∀ ob, (w.alloc ob).frozen? ⟨s, 2, none⟩ = false := fun ob => blk_free (i := 2) (hb0 ob)
  have g1 : w.frozen? ⟨s, 3, none⟩ = false := blk_free (i := 3) H.blk
  have g2 : w.frozen? ⟨s, 2, none⟩ = false := blk_free (i := 2) H.blk
  clear H hb0
  have hw : IntKind.i64.wrap (1 - (st.head : Int)) = 1 - (st.head : Int) := by rw [IntKind.wrap_i64]; omega
  go_upto_region 3 with fail
  have hn : IntKind.u64.wrap ((st.count : Int) + 1) = ((st.next : Nat) : Int) := by rw [IntKind.wrap_u64, Mod.Stv.next]; omega
  have hv : 1 - (st.head : Int) = ((1 - st.head : Nat) : Int) := by omega
  refine wp_world (fun x => x.heap[s]? = some (.cells #[.pointer (some ⟨dp, 0, none⟩), .int .u32 st.opening, .int .u64 st.next, .int .i64 (1 - st.head : Nat)] 203 (0, 0)) ∧ x.heap[w.heap.size]? = some (.cells #[.int .i64 a, .int .i64 b, .int .i64 d] 136 (0, 0)) ∧ DkAt x dp st.dk lv uv ∧ Far (fun k => k = s) w x ∧ w.heap.size < x.heap.size) ?_ ?_
  · rw [hn, hv]
    have hF : Far (fun k => k = s) w (((w.setCell ⟨s, 3, none⟩ (.int .i64 (1 - st.head : Nat))).setCell ⟨s, 2, none⟩ (.int .u64 st.next)).alloc (.cells #[.int .i64 a, .int .i64 b, .int .i64 d] 136)) :=
      ((far_set w s 3 _).trans (far_set _ s 2 _) (fun _ _ h => h)).trans (far_below ((Below.refl _ _).alloc (Nat.le_refl _) _)) (fun _ _ h => h)
    refine ⟨?_, ?_, (unhide HH).dk.far hF (fun k hk e => (unhide HH).sep (by rw [← e]; exact hk)), hF, by simp⟩
    · rw [heap_alloc_old _ _ (by simp; exact hsl)]
      have h1 := blk_set (j := 3) (v := .int .i64 (1 - st.head : Nat)) (unhide HH).blk
      have h2 := blk_set (j := 2) (v := .int .u64 st.next) h1
      simpa [ptrTo] using h2
    · have := heap_alloc_new ((w.setCell ⟨s, 3, none⟩ (.int .i64 (1 - st.head : Nat))).setCell ⟨s, 2, none⟩ (.int .u64 st.next)) (.cells #[.int .i64 a, .int .i64 b, .int .i64 d] 136)
      simpa using this
  rintro x ⟨h0, h1, hD, hF, hz⟩
  have hslx := lt_of_block h0
  have hsep : ¬ DkU dp lv uv s := dk_ne hD h0 (by decide) (by decide) (by decide)
  have hsepn : ¬ DkU dp lv uv w.heap.size := dk_ne hD h1 (by decide) (by decide) (by decide)
  have hDlt := hD.lt
  obtain ⟨SB, hSB⟩ : ∃ SB, SB = Mod.sealB st.opening st.next (Mod.headIn a b d) := ⟨_, rfl⟩
  rw [← hSB] at hS3
  have hW := fun y (hb : y.heap[s]? = _) (hD : DkAt y dp st.dk lv uv) => hide (storeWrite_any y s dp lv uv (.int .u32 st.opening) (.int .u64 st.next) (.int .i64 (1 - st.head : Nat)) st.dk (1 - st.head) SB hS3 hk hb hD)
  have hSl := fun y => hide (sealHead_any st.opening st.next a b d y (unhide HH).op hnext ha hb hd)
  rw [← hSB] at hSl
  obtain ⟨ee, hee⟩ : ∃ ee, ee = (st.dk.put (1 - st.head) SB).1 := ⟨_, rfl⟩
  obtain ⟨dd, hdd⟩ : ∃ dd, dd = (st.dk.put (1 - st.head) SB).2 := ⟨_, rfl⟩
  rw [← hee, ← hdd] at hW
  have HEQ := hide (And.intro hSB (And.intro hee hdd))
  have H0 := hide h0
  have H1 := hide h1
  have HD := hide hD
  have HF := hide hF
  clear hSB hee hdd h0 h1 hD hF c1 c2 d1 d2 f1 f2 g1 g2 hw hn hv
  unfold ptrTo at hW
  refine wp_region_foot (by kernel_rfl)
    [fun v _ => v = .pointer (some ⟨s, 0, none⟩), fun v _ => v = .pointer (some ⟨s, 0, none⟩), fun v _ => v = .pointer (some ⟨s, 0, none⟩), fun v _ => v = .pointer (some ⟨s, 3, none⟩), fun v _ => v = .int .i64 (1 - st.head : Nat),
     fun v _ => v = .pointer (some ⟨s, 0, none⟩), fun v _ => v = .pointer (some ⟨s, 0, none⟩), fun v _ => v = .pointer (some ⟨s, 1, none⟩), fun v _ => v = .agg #[.int .u32 st.opening, .int .u64 st.next], fun v _ => v = .agg #[.int .i64 a, .int .i64 b, .int .i64 d],
     fun v _ => v = .agg #[.int .u32 st.opening, .int .u64 st.next, .int .i64 a, .int .i64 b, .int .i64 d], fun v _ => v = .agg (bv SB).toArray, fun v y => v = .int .i64 ee ∧ ∃ uv', DkAt y dp dd lv uv' ∧ Loc x uv uv', fun v _ => v = .int .i64 ee]
    [[(0, none)], [(0, none)], [(23, some 1)], [(24, some 2)], [(25, some 3)], [(0, none)], [(27, some 5)], [(28, some 6)], [(29, some 7)], [(3, none)], [(30, some 8), (31, some 9)], [(32, some 10)], [(22, some 0), (26, some 4), (33, some 11)], [(34, some 12)]] [some 22, some 23, some 24, some 25, some 26, some 27, some 28, some 29, some 30, some 31, some 32, some 33, some 34, some 4] [false, false, false, false, true, false, false, false, false, false, false, false, false, false, false, false, false, false, false, false, false, false, true, true, true, true, true, true, true, true, true, true, true, true, true]
    [(12, DkU dp lv uv)]
    (by kernel_rfl) (by kernel_rfl) (by kernel_rfl) (by kernel_rfl) (by kernel_rfl) ?_ ?_ ?_ ?_
  · repeat' (first | exact stable_eq _ | exact (fun _ y z h hb => ⟨h.1, h.2.imp fun uv' h => ⟨h.1.far (far_below (E := fun _ => False) hb) (fun _ _ h => h), h.2⟩⟩) | exact trivial | apply And.intro)
  · repeat' (first | exact trivial | exact .inl rfl | exact .inr (.inr (stableF_eq _ _)) | apply And.intro)
  · refine ⟨?_, ?_, ?_, ?_, ?_, ?_, ?_, ?_, ?_, ?_, ?_, ?_, ?_, ?_, trivial⟩
    all_goals
      intro a' z hb hf
      have z0 := hb.blk (unhide H0) (footBut_no (by intro q hq; simp at hq; subst hq; exact hsep))
      have z1 := hb.blk (unhide H1) (footBut_no (by intro q hq; simp at hq; subst hq; exact hsepn))
      have e1 : z.cell? ⟨s, 1, none⟩ = some (.int .u32 st.opening) := blk_cell (i := 1) z0
      have e2 : z.cell? ⟨s, 2, none⟩ = some (.int .u64 st.next) := blk_cell (i := 2) z0
      have e3 : z.cell? ⟨s, 3, none⟩ = some (.int .i64 (1 - st.head : Nat)) := blk_cell (i := 3) z0
      have n0 : z.cell? ⟨w.heap.size, 0, none⟩ = some (.int .i64 a) := blk_cell (i := 0) z1
      have n1 : z.cell? ⟨w.heap.size, 1, none⟩ = some (.int .i64 b) := blk_cell (i := 1) z1
      have n2 : z.cell? ⟨w.heap.size, 2, none⟩ = some (.int .i64 d) := blk_cell (i := 2) z1
      have Z0 := hide z0
      clear z0 z1
      simp only [PlanFacts, List.getD_cons_zero, List.getD_cons_succ, Array.getD_eq_getD_getElem?] at hf
      try simp at hf
    iterate 11
      · clear hb
        go_simp
        exact ⟨_, rfl, Far.refl _ _, rfl⟩
    · clear hb
      go_simp
      refine (unhide (hSl z)).mono ?_
      rintro r w1 ⟨rfl, hb1⟩
      exact ⟨_, rfl, far_below hb1, rfl⟩
    · have hDz := (unhide HD).far hb (by
        rintro k hk ⟨q, hq, g1, g2, g3⟩
        simp at hq
        subst hq
        exact g1 rfl)
      have HC := hide (unhide (hW z (unhide Z0) hDz))
      have hzz := hb.size
      clear hb hDz
      go_simp
      refine (unhide HC).mono ?_
      rintro r w1 ⟨rfl, uv', k1, k2, k3⟩
      exact ⟨_, rfl, footOf_of (.head _) k3, rfl, uv', k1, loc_less k2 hzz⟩
    · clear hb
      obtain ⟨hf, _⟩ := hf
      go_simp
      exact ⟨_, rfl, Far.refl _ _, rfl⟩
  · intro f z hFz hwd
    obtain ⟨_, uv', k1, k2⟩ := hwd.2.2.2.2.2.2.2.2.2.2.2.2.1
    have h13 := hwd.2.2.2.2.2.2.2.2.2.2.2.2.2.1
    have hFz : Far (DkU dp lv uv) x z := hFz.mono (fun b _ h => by
      obtain ⟨q, hq, h⟩ := h
      simp at hq
      subst hq
      exact h)
    have z0 := hFz.blk (unhide H0) hsep
    have HFIN := hide (And.intro k1 (And.intro k2 (And.intro hFz z0)))
    clear hwd k1 k2 hFz z0
    simp only [mergeT, h13]
    generalize f 22 = x22
    generalize f 23 = x23
    generalize f 24 = x24
    generalize f 25 = x25
    generalize f 26 = x26
    generalize f 27 = x27
    generalize f 28 = x28
    generalize f 29 = x29
    generalize f 30 = x30
    generalize f 31 = x31
    generalize f 32 = x32
    generalize f 33 = x33
    generalize f 34 = x34
    go_simp
    go_wp2
    go_ret
    obtain ⟨k1, k2, k3, k4⟩ := unhide HFIN
    obtain ⟨q1, q2, q3⟩ := unhide HEQ
    have hp : st.putNumbers a b d = (ee, { st with head := 1 - st.head, count := st.next, dk := dd }) := by
      unfold Mod.Stv.putNumbers
      rw [← q1, ← q2, ← q3]
    rw [hp]
    exact ⟨rfl, uv', ⟨k4, k1, (unhide HH).op, hnext, by show 1 - st.head ≤ 1; omega⟩, loc_less k2 (by omega), ((unhide HF).mono (fun _ _ e => .inl e)).trans k3 (fun _ _ e => .inr e)⟩
end Go.Proofs.YtamafdcnbcoegaaGreat
namespace Go.Proofs.YtamafdcnbcoegaaGreat
open Go.RowKit

set_option maxRecDepth 100000 in
set_option maxHeartbeats 2000000 in
theorem writeRecord_any (w : World) (s dp : Nat) (st : Mod.Stv) (lv uv : Value) (H : StAt w s dp st lv uv) (place sm q : Nat) (body : ByteArray) (hpl : 64 * (2 + place) + 64 ≤ st.dk.bytes.length) (hsm : sm < 256) (hq : q < 4294967296) (hbo : body.size ≤ 20) :
    Calls Tryz.prog 89 #[ptrTo s, .int .i64 place, .agg #[.int .i64 sm, .int .i64 q, .string body]] w fun r w' => r = .returned (.int .i64 (st.putRecord place sm q body.data.toList).1) ∧
      ∃ uv', StAt w' s dp (st.putRecord place sm q body.data.toList).2 lv uv' ∧ Loc w uv uv' ∧ Far (StU s dp lv uv) w w' := by
  have hsl := lt_of_block H.blk
  have hnext : st.next < 18446744073709551616 := Nat.mod_lt _ (by omega)
  have hlen := H.dk.len
  have hS3 := Mod.length_sealB st.opening st.next (inside := Mod.recIn sm q body.data.toList) (by rw [Mod.length_recIn]; simp; omega)
  have hh := H.hd
  have HH := hide H
  unfold ptrTo at *
  go_enter Tryz.func89, Tryz.ntmps89
  have hb0 := fun ob => (heap_alloc_old w ob hsl).trans H.blk
  have c2 : ∀ ob, (w.alloc ob).cell? ⟨s, 2, none⟩ = some (.int .u64 st.count) := fun ob => blk_cell (i := 2) (hb0 ob)
  have d2 : w.cell? ⟨s, 2, none⟩ = some (.int .u64 st.count) := blk_cell (i := 2) H.blk
  have f2 : ∀ ob, (w.alloc ob).frozen? ⟨s, 2, none⟩ = false := fun ob => blk_free (i := 2) (hb0 ob)
  have g2 : w.frozen? ⟨s, 2, none⟩ = false := blk_free (i := 2) H.blk
  clear H hb0
  have hw : IntKind.i64.wrap (2 + (place : Int)) = 2 + (place : Int) := by rw [IntKind.wrap_i64]; omega
  go_upto_region 2 with fail
  have hn : IntKind.u64.wrap ((st.count : Int) + 1) = ((st.next : Nat) : Int) := by rw [IntKind.wrap_u64, Mod.Stv.next]; omega
  refine wp_world (fun x => x.heap[s]? = some (.cells #[.pointer (some ⟨dp, 0, none⟩), .int .u32 st.opening, .int .u64 st.next, .int .i64 st.head] 203 (0, 0)) ∧ x.heap[w.heap.size]? = some (.cells #[.int .i64 sm, .int .i64 q, .string body] 155 (0, 0)) ∧ DkAt x dp st.dk lv uv ∧ Far (fun k => k = s) w x ∧ w.heap.size < x.heap.size) ?_ ?_
  · rw [hn]
    have hF : Far (fun k => k = s) w ((w.setCell ⟨s, 2, none⟩ (.int .u64 st.next)).alloc (.cells #[.int .i64 sm, .int .i64 q, .string body] 155)) :=
      (far_set w s 2 _).trans (far_below ((Below.refl _ _).alloc (Nat.le_refl _) _)) (fun _ _ h => h)
    refine ⟨?_, ?_, (unhide HH).dk.far hF (fun k hk e => (unhide HH).sep (by rw [← e]; exact hk)), hF, by simp⟩
    · rw [heap_alloc_old _ _ (by simp; exact hsl)]
      have h2 := blk_set (j := 2) (v := .int .u64 st.next) (unhide HH).blk
      simpa [ptrTo] using h2
    · have := heap_alloc_new (w.setCell ⟨s, 2, none⟩ (.int .u64 st.next)) (.cells #[.int .i64 sm, .int .i64 q, .string body] 155)
      simpa using this
  rintro x ⟨h0, h1, hD, hF, hz⟩
  have hslx := lt_of_block h0
  have hsep : ¬ DkU dp lv uv s := dk_ne hD h0 (by decide) (by decide) (by decide)
  have hsepn : ¬ DkU dp lv uv w.heap.size := dk_ne hD h1 (by decide) (by decide) (by decide)
  obtain ⟨SB, hSB⟩ : ∃ SB, SB = Mod.sealB st.opening st.next (Mod.recIn sm q body.data.toList) := ⟨_, rfl⟩
  rw [← hSB] at hS3
  have hW := fun y (hb : y.heap[s]? = _) (hD : DkAt y dp st.dk lv uv) => hide (storeWrite_any y s dp lv uv (.int .u32 st.opening) (.int .u64 st.next) (.int .i64 st.head) st.dk (2 + place) SB hS3 hpl hb hD)
  have hSl := fun y => hide (sealRecord_any st.opening st.next sm q body y (unhide HH).op hnext hsm hq hbo)
  rw [← hSB] at hSl
  obtain ⟨ee, hee⟩ : ∃ ee, ee = (st.dk.put (2 + place) SB).1 := ⟨_, rfl⟩
  obtain ⟨dd, hdd⟩ : ∃ dd, dd = (st.dk.put (2 + place) SB).2 := ⟨_, rfl⟩
  rw [← hee, ← hdd] at hW
  have HEQ := hide (And.intro hSB (And.intro hee hdd))
  have H0 := hide h0
  have H1 := hide h1
  have HD := hide hD
  have HF := hide hF
  obtain ⟨pp, hpp⟩ : ∃ pp, pp = 2 + place := ⟨_, rfl⟩
  rw [← hpp] at hW
  have hpc : 2 + (place : Int) = (pp : Int) := by omega
  rw [hpc] at hw
  clear hpp
  clear hSB hee hdd h0 h1 hD hF c2 d2 f2 g2 hn
  unfold ptrTo at hW
  refine wp_region_foot (by kernel_rfl)
    [fun v _ => v = .pointer (some ⟨s, 0, none⟩), fun v _ => v = .int .i64 place, fun v _ => v = .int .i64 pp, fun v _ => v = .pointer (some ⟨s, 0, none⟩), fun v _ => v = .pointer (some ⟨s, 0, none⟩), fun v _ => v = .pointer (some ⟨s, 1, none⟩), fun v _ => v = .agg #[.int .u32 st.opening, .int .u64 st.next], fun v _ => v = .agg #[.int .i64 sm, .int .i64 q, .string body],
     fun v _ => v = .agg (bv SB).toArray, fun v y => v = .int .i64 ee ∧ ∃ uv', DkAt y dp dd lv uv' ∧ Loc x uv uv', fun v _ => v = .int .i64 ee]
    [[(0, none)], [(1, none)], [(17, some 1)], [(0, none)], [(19, some 3)], [(20, some 4)], [(21, some 5)], [(5, none)], [(22, some 6), (23, some 7)], [(16, some 0), (18, some 2), (24, some 8)], [(25, some 9)]] [some 16, some 17, some 18, some 19, some 20, some 21, some 22, some 23, some 24, some 25, some 6] [false, false, false, false, false, false, true, false, false, false, false, false, false, false, false, false, true, true, true, true, true, true, true, true, true, true]
    [(9, DkU dp lv uv)]
    (by kernel_rfl) (by kernel_rfl) (by kernel_rfl) (by kernel_rfl) (by kernel_rfl) ?_ ?_ ?_ ?_
  · repeat' (first | exact stable_eq _ | exact (fun _ y z h hb => ⟨h.1, h.2.imp fun uv' h => ⟨h.1.far (far_below (E := fun _ => False) hb) (fun _ _ h => h), h.2⟩⟩) | exact trivial | apply And.intro)
  · repeat' (first | exact trivial | exact .inl rfl | exact .inr (.inr (stableF_eq _ _)) | apply And.intro)
  · refine ⟨?_, ?_, ?_, ?_, ?_, ?_, ?_, ?_, ?_, ?_, ?_, trivial⟩
    all_goals
      intro a' z hb hf
      have z0 := hb.blk (unhide H0) (footBut_no (by intro q hq; simp at hq; subst hq; exact hsep))
      have z1 := hb.blk (unhide H1) (footBut_no (by intro q hq; simp at hq; subst hq; exact hsepn))
      have e1 : z.cell? ⟨s, 1, none⟩ = some (.int .u32 st.opening) := blk_cell (i := 1) z0
      have e2 : z.cell? ⟨s, 2, none⟩ = some (.int .u64 st.next) := blk_cell (i := 2) z0
      have n0 : z.cell? ⟨w.heap.size, 0, none⟩ = some (.int .i64 sm) := blk_cell (i := 0) z1
      have n1 : z.cell? ⟨w.heap.size, 1, none⟩ = some (.int .i64 q) := blk_cell (i := 1) z1
      have n2 : z.cell? ⟨w.heap.size, 2, none⟩ = some (.string body) := blk_cell (i := 2) z1
      have Z0 := hide z0
      clear z0 z1
      simp only [PlanFacts, List.getD_cons_zero, List.getD_cons_succ, Array.getD_eq_getD_getElem?] at hf
      try simp at hf
    iterate 2
      · clear hb
        go_simp
        exact ⟨_, rfl, Far.refl _ _, rfl⟩
    · clear hb
      go_simp
      exact ⟨_, rfl, Far.refl _ _, rfl⟩
    iterate 5
      · clear hb
        go_simp
        exact ⟨_, rfl, Far.refl _ _, rfl⟩
    · clear hb
      go_simp
      refine (unhide (hSl z)).mono ?_
      rintro r w1 ⟨rfl, hb1⟩
      exact ⟨_, rfl, far_below hb1, rfl⟩
    · have hDz := (unhide HD).far hb (by
        rintro k hk ⟨q, hq, g1, g2, g3⟩
        simp at hq
        subst hq
        exact g1 rfl)
      have HC := hide (unhide (hW z (unhide Z0) hDz))
      have hzz := hb.size
      clear hb hDz
      go_simp
      refine (unhide HC).mono ?_
      rintro r w1 ⟨rfl, uv', k1, k2, k3⟩
      exact ⟨_, rfl, footOf_of (.head _) k3, rfl, uv', k1, loc_less k2 hzz⟩
    · clear hb
      obtain ⟨hf, _⟩ := hf
      go_simp
      exact ⟨_, rfl, Far.refl _ _, rfl⟩
  · intro f z hFz hwd
    obtain ⟨_, uv', k1, k2⟩ := hwd.2.2.2.2.2.2.2.2.2.1
    have h13 := hwd.2.2.2.2.2.2.2.2.2.2.1
    have hFz : Far (DkU dp lv uv) x z := hFz.mono (fun b _ h => by
      obtain ⟨q, hq, h⟩ := h
      simp at hq
      subst hq
      exact h)
    have z0 := hFz.blk (unhide H0) hsep
    have HFIN := hide (And.intro k1 (And.intro k2 (And.intro hFz z0)))
    clear hwd k1 k2 hFz z0
    simp only [mergeT, h13]
    generalize f 16 = x16
    generalize f 17 = x17
    generalize f 18 = x18
    generalize f 19 = x19
    generalize f 20 = x20
    generalize f 21 = x21
    generalize f 22 = x22
    generalize f 23 = x23
    generalize f 24 = x24
    generalize f 25 = x25
    go_simp
    go_wp2
    go_ret
    obtain ⟨k1, k2, k3, k4⟩ := unhide HFIN
    obtain ⟨q1, q2, q3⟩ := unhide HEQ
    have hp : st.putRecord place sm q body.data.toList = (ee, { st with count := st.next, dk := dd }) := by
      unfold Mod.Stv.putRecord
      rw [← q1, ← q2, ← q3]
    rw [hp]
    exact ⟨rfl, uv', ⟨k4, k1, (unhide HH).op, hnext, hh⟩, loc_less k2 (by omega), ((unhide HF).mono (fun _ _ e => .inl e)).trans k3 (fun _ _ e => .inr e)⟩

/-- Has the disk failed? -/
theorem storeIsDead_any {w : World} {s dp : Nat} {st : Mod.Stv} {lv uv : Value} (H : StAt w s dp st lv uv) :
    Calls Tryz.prog 86 #[ptrTo s] w fun r w' => r = .returned (.bool st.dk.dead) ∧ w' = w := by
  have c0 : w.cell? ⟨s, 0, none⟩ = some (ptrTo dp) := blk_cell (i := 0) H.blk
  have c3 : w.cell? ⟨dp, 3, none⟩ = some (.bool st.dk.dead) := blk_cell (i := 3) H.dk.blk
  unfold ptrTo at *
  clear H
  have HD : ∀ y : World, y = w → Calls Tryz.prog 128 #[.pointer (some ⟨dp, 0, none⟩)] y fun r w' => r = .returned (.bool st.dk.dead) ∧ w' = w := by
    rintro y rfl
    clear c0
    go_enter Tryz.func128, Tryz.ntmps128
    go_wp2
    go_ret
    exact ⟨rfl, rfl⟩
  have HD := hide HD
  clear c3
  go_enter Tryz.func86, Tryz.ntmps86
  go_wp2_with (go_at_call 128; refine ((unhide HD) _ rfl).mono ?_; rintro r y ⟨rfl, rfl⟩)
  go_ret
  exact ⟨rfl, rfl⟩
/-- How many times was the disk opened? -/
theorem storeOpening_any {w : World} {s dp : Nat} {st : Mod.Stv} {lv uv : Value} (H : StAt w s dp st lv uv) :
    Calls Tryz.prog 111 #[ptrTo s] w fun r w' => r = .returned (.int .i64 st.opening) ∧ w' = w := by
  have c0 : w.cell? ⟨s, 1, none⟩ = some (.int .u32 st.opening) := blk_cell (i := 1) H.blk
  have hw : IntKind.i64.wrap (st.opening : Int) = (st.opening : Int) := by have := H.op; rw [IntKind.wrap_i64]; omega
  unfold ptrTo at *
  clear H
  go_enter Tryz.func111, Tryz.ntmps111
  go_wp2
  go_ret
  exact ⟨by simp, rfl⟩
end Go.Proofs.YtamafdcnbcoegaaGreat
namespace Go.Proofs.YtamafdcnbcoegaaGreat
open Go.RowKit

theorem isAgg_sec (w : World) : (isAgg 207).run Tryz.prog w = .ok true w := by
  simp [isAgg, run_underlying Tryz.underlying207]
theorem wpList_load_sec_at {ops : Array Oper} {rest : List Oper} {o : Oper} {a : Act} {w : World} {Q : Exit → Act → World → Prop} (hgd : o.guard = none) (x : Operand) (ho : o.op = .load 207 x)
    (ad : Addr) (hx : a.eval x = .pointer (some ad)) (S : List UInt8) (hS : S.length = 64) (hc : ∀ j v, (bv S)[j]? = some v → w.cell? (ad.add j) = some v)
    (h : wpList Tryz.prog ops Q rest (a.put o.dst (.agg (bv S).toArray)) w) : wpList Tryz.prog ops Q (o :: rest) a w := by
  refine wpList_plain hgd fun K hK => ?_
  unfold Oper.wp execOp
  simp only [ho, hx, Instr.loadAt, Instr.sureAddr, Sem.run_bind, Sem.run_pure, Result.andThen_ok, run_loadVar_at w ad 207 (bv S) hc (isAgg_sec w) (by rw [size64, bv_length, hS])]
  exact hK _ _ h

set_option maxRecDepth 100000 in
set_option maxHeartbeats 1000000 in
theorem sectorAt_any (w : World) (v : Value) (L : List UInt8) (k : Nat) (hat : BytesAt w v L) (hk : 64 * k + 64 ≤ L.length) (hL : L.length ≤ 10000) :
    Calls Tryz.prog 195 #[v, .int .i64 k] w fun r w' => r = .returned (.agg (bv ((L.drop (k * 64)).take 64)).toArray) ∧ Below w.heap.size w w' := by
  obtain ⟨ad, cap, rfl, h1, h2, h3⟩ := hat
  obtain ⟨b, off, rfl, hc⟩ := h3 (by omega)
  obtain ⟨n, hn⟩ : ∃ n, n = L.length := ⟨_, rfl⟩
  rw [← hn] at hk hL h1 h2 hc ⊢
  have hS3 : ((L.drop (k * 64)).take 64).length = 64 := by rw [List.length_take, List.length_drop, ← hn]; omega
  have hcell : ∀ j v, (bv ((L.drop (k * 64)).take 64))[j]? = some v → w.cell? ⟨b, off + k * 64 + j, none⟩ = some v := by
    intro j v hj
    have hjl : j < 64 := by
      have := (List.getElem?_eq_some_iff.1 hj).1
      rw [bv_length, hS3] at this; exact this
    rw [bv_get (by rw [hS3]; exact hjl)] at hj
    cases hj
    have := hc (k * 64 + j) (by omega)
    rw [← Nat.add_assoc] at this
    rw [this]
    simp [List.getD_eq_getElem?_getD, hjl, List.getElem?_drop]
  obtain ⟨S, hSd⟩ : ∃ S, S = (L.drop (k * 64)).take 64 := ⟨_, rfl⟩
  rw [← hSd] at hS3 hcell ⊢
  have HC := hide hcell
  clear hcell hc hSd hn
  have i0 : (0 : Int) ≤ (k : Int) * 64 := by omega
  have i1 : (k : Int) * 64 ≤ (k : Int) * 64 + 64 := by omega
  have i2 : (k : Int) * 64 + 64 ≤ (n : Int) := by omega
  have i3 : (k : Int) * 64 + 64 ≤ (cap : Int) := by omega
  have it : ((k : Int) * 64).toNat = k * 64 := by omega
  have it2 : ((k : Int) * 64 + 64).toNat = k * 64 + 64 := by omega
  have hw : IntKind.i64.wrap ((k : Int) * 64) = (k : Int) * 64 := by rw [IntKind.wrap_i64]; omega
  have hw1 : IntKind.i64.wrap ((k : Int) + 1) = (k : Int) + 1 := by rw [IntKind.wrap_i64]; omega
  have hw2 : IntKind.i64.wrap (((k : Int) + 1) * 64) = (k : Int) * 64 + 64 := by rw [IntKind.wrap_i64]; omega
  have hne : ¬ cap = k * 64 := by omega
  have hap : ∀ y : World, (Instr.arrayAt 207 (.slice (some ⟨b, off + k * 64, none⟩) 64 (cap - k * 64))).run Tryz.prog y = .ok (.pointer (some ⟨b, off + k * 64, none⟩)) y := fun y => by
    simp [Instr.arrayAt, run_underlying Tryz.underlying207]
  go_enter Tryz.func195, Tryz.ntmps195
  go_upto_region 1 with fail
  refine wp_world (fun x => x.heap[w.heap.size]? = some (.cells (bv zeros).toArray 207 (0, 0)) ∧ (∀ j v, (bv S)[j]? = some v → x.cell? ⟨b, off + k * 64 + j, none⟩ = some v) ∧ Below w.heap.size w x) ?_ ?_
  · refine ⟨cells_eq (heap_alloc_new _ _) (by kernel_rfl), fun j v hj => ?_, (Below.refl _ _).alloc (Nat.le_refl _) _⟩
    have h := (unhide HC) j v hj
    exact (World.cell?_alloc_lt w _ ⟨b, off + k * 64 + j, none⟩ (World.block_lt_of_cell? _ _ h)).trans h
  rintro x ⟨h0, hcx, hB⟩
  have H0 := hide h0
  have HCX := hide hcx
  have HB := hide hB
  have hz := lt_of_block h0
  clear h0 hcx hB HC
  go_wp2_with (first
    | (refine wpList_load_sec_at rfl (.tmp 12) rfl ⟨b, off + k * 64, none⟩ rfl S hS3 (by intro j v hj; rw [add_mk]; exact (unhide HCX) j v hj) ?_)
    | (refine wpList_store_sec rfl (.tmp 4) (.tmp 13) rfl w.heap.size rfl S hS3 rfl 207 _ (by simp [bv_length, length_zeros]) (unhide H0) ?_; intro z4 hz4 hF4; go_simp))
  exact bodyPost_ret (results_sec Tryz.results195 _ _ w.heap.size _ _ hS3 rfl hz4) rfl ⟨rfl, (unhide HB).trans (hF4.below (unhide HB).size (fun k hk e => by omega))⟩
theorem drop_zeros (n k : Nat) (h : k * 64 + 64 ≤ n) : ((List.replicate n (0 : UInt8)).drop (k * 64)).take 64 = zeros := by
  rw [List.drop_replicate, List.take_replicate, zeros]
  congr 1
  omega
theorem sectorAt_zero (w : World) (v : Value) (n k : Nat) (hat : BytesAt w v (List.replicate n 0)) (hk : k * 64 + 64 ≤ n) (hn : n ≤ 10000) :
    Calls Tryz.prog 195 #[v, .int .i64 k] w fun r w' => r = .returned (.agg (bv zeros).toArray) ∧ Below w.heap.size w w' := by
  have h := sectorAt_any w v (List.replicate n 0) k hat (by simp; omega) (by simpa using hn)
  rw [drop_zeros n k hk] at h
  exact h

theorem built_zero : Tryz.prog.built 207 [] = some (bv zeros).toArray := by kernel_rfl
theorem wpList_build_zero {ops : Array Oper} {rest : List Oper} {o : Oper} {a : Act} {w : World} {Q : Exit → Act → World → Prop} (hgd : o.guard = none) (ho : o.op = .build 207 #[])
    (h : wpList Tryz.prog ops Q rest (a.put o.dst (.agg (bv zeros).toArray)) w) : wpList Tryz.prog ops Q (o :: rest) a w := by
  refine wpList_build hgd 207 #[] ho ?_ ?_
  · simp [built_zero]
  · simpa [built_zero] using h

set_option maxRecDepth 100000 in
set_option maxHeartbeats 1000000 in
theorem readHead_zero (w : World) : Calls Tryz.prog 194 #[.agg (bv zeros).toArray] w fun r w' =>
    r = .returned (.tuple #[.agg #[.int .u32 0, .int .u64 0, .int .i64 0, .int .i64 0, .int .i64 0], .bool true]) ∧ Below w.heap.size w w' := by
  have heq := fun y => eq_sec (S := zeros) (T := zeros) length_zeros length_zeros y
  rw [decide_eq_true rfl] at heq
  go_enter Tryz.func194, Tryz.ntmps194
  go_upto_region 1 with fail
  refine wp_world (fun x => x.heap[w.heap.size]? = some (.cells (bv zeros).toArray 207 (0, 0)) ∧ x.heap[w.heap.size + 1]? = some (.cells #[.int .u32 0, .int .u64 0, .int .i64 0, .int .i64 0, .int .i64 0] 217 (0, 0)) ∧ Below w.heap.size w x) (alloc2 _ _ _) ?_
  rintro x ⟨h0, h1, hB⟩
  have q0 : x.cell? ⟨w.heap.size + 1, 0, none⟩ = some (.int .u32 0) := blk_cell (i := 0) h1
  have q1 : x.cell? ⟨w.heap.size + 1, 1, none⟩ = some (.int .u64 0) := blk_cell (i := 1) h1
  have q2 : x.cell? ⟨w.heap.size + 1, 2, none⟩ = some (.int .i64 0) := blk_cell (i := 2) h1
  have q3 : x.cell? ⟨w.heap.size + 1, 3, none⟩ = some (.int .i64 0) := blk_cell (i := 3) h1
  have q4 : x.cell? ⟨w.heap.size + 1, 4, none⟩ = some (.int .i64 0) := blk_cell (i := 4) h1
  have p0 : x.frozen? ⟨w.heap.size + 1, 0, none⟩ = false := blk_free (i := 0) h1
  have p1 : x.frozen? ⟨w.heap.size + 1, 1, none⟩ = false := blk_free (i := 1) h1
  have p2 : x.frozen? ⟨w.heap.size + 1, 2, none⟩ = false := blk_free (i := 2) h1
  have p3 : x.frozen? ⟨w.heap.size + 1, 3, none⟩ = false := blk_free (i := 3) h1
  have p4 : x.frozen? ⟨w.heap.size + 1, 4, none⟩ = false := blk_free (i := 4) h1
  have H0 := hide h0
  have HB := hide hB
  clear h0 h1 hB
  go_wp2_with (first
    | (refine wpList_load_sec rfl (.tmp 1) rfl w.heap.size rfl 207 zeros length_zeros (unhide H0) ?_)
    | (refine wpList_build_zero rfl rfl ?_; go_simp))
  refine bodyPost_ret (v := .tuple #[.agg #[.int .u32 0, .int .u64 0, .int .i64 0, .int .i64 0, .int .i64 0], .bool true]) (by simp [results, Tryz.results194, go_sem, q0, q1, q2, q3, q4]) rfl ⟨rfl, ?_⟩
  have hb1 := unhide HB
  exact ((((hb1.setCell (p := ⟨w.heap.size + 1, 0, none⟩) (by simp) _).setCell (p := ⟨w.heap.size + 1, 1, none⟩) (by simp) _).setCell (p := ⟨w.heap.size + 1, 2, none⟩) (by simp) _).setCell (p := ⟨w.heap.size + 1, 3, none⟩) (by simp) _).setCell (p := ⟨w.heap.size + 1, 4, none⟩) (by simp) _

set_option maxRecDepth 100000 in
set_option maxHeartbeats 1000000 in
theorem readRecord_zero (w : World) (last : Nat) : Calls Tryz.prog 197 #[.agg (bv zeros).toArray, .int .u32 last] w fun r w' =>
    r = .returned (.tuple #[.agg #[.int .i64 0, .int .i64 0, .string ⟨#[]⟩], .bool true]) ∧ Below w.heap.size w w' := by
  have heq := fun y => eq_sec (S := zeros) (T := zeros) length_zeros length_zeros y
  rw [decide_eq_true rfl] at heq
  go_enter Tryz.func197, Tryz.ntmps197
  go_upto_region 1 with fail
  refine wp_world (fun x => x.heap[w.heap.size]? = some (.cells (bv zeros).toArray 207 (0, 0)) ∧ x.heap[w.heap.size + 1]? = some (.cells #[.int .i64 0, .int .i64 0, .string ⟨#[]⟩] 155 (0, 0)) ∧ Below w.heap.size w x) (alloc2 _ _ _) ?_
  rintro x ⟨h0, h1, hB⟩
  have q0 : x.cell? ⟨w.heap.size + 1, 0, none⟩ = some (.int .i64 0) := blk_cell (i := 0) h1
  have q1 : x.cell? ⟨w.heap.size + 1, 1, none⟩ = some (.int .i64 0) := blk_cell (i := 1) h1
  have q2 : x.cell? ⟨w.heap.size + 1, 2, none⟩ = some (.string ⟨#[]⟩) := blk_cell (i := 2) h1
  have p0 : x.frozen? ⟨w.heap.size + 1, 0, none⟩ = false := blk_free (i := 0) h1
  have p1 : x.frozen? ⟨w.heap.size + 1, 1, none⟩ = false := blk_free (i := 1) h1
  have p2 : x.frozen? ⟨w.heap.size + 1, 2, none⟩ = false := blk_free (i := 2) h1
  have H0 := hide h0
  have HB := hide hB
  clear h0 h1 hB
  go_wp2_with (first
    | (refine wpList_load_sec rfl (.tmp 2) rfl w.heap.size rfl 207 zeros length_zeros (unhide H0) ?_)
    | (refine wpList_build_zero rfl rfl ?_; go_simp))
  refine bodyPost_ret (v := .tuple #[.agg #[.int .i64 0, .int .i64 0, .string ⟨#[]⟩], .bool true]) (by simp [results, Tryz.results197, go_sem, q0, q1, q2]) rfl ⟨rfl, ?_⟩
  have hb1 := unhide HB
  exact ((hb1.setCell (p := ⟨w.heap.size + 1, 0, none⟩) (by simp) _).setCell (p := ⟨w.heap.size + 1, 1, none⟩) (by simp) _).setCell (p := ⟨w.heap.size + 1, 2, none⟩) (by simp) _
end Go.Proofs.YtamafdcnbcoegaaGreat
namespace Go.Proofs.YtamafdcnbcoegaaGreat
open Go.RowKit

namespace Mod
/-- Is a stamp newer? -/
def newer (o c o' c' : Nat) : Bool := if o ≠ o' then decide (o' < o) else decide (c' < c)
end Mod
set_option maxHeartbeats 400000 in
theorem isNewer_any (o c o' c' : Nat) (w : World) : Calls Tryz.prog 196 #[.agg #[.int .u32 o, .int .u64 c], .agg #[.int .u32 o', .int .u64 c']] w fun r w' => r = .returned (.bool (Mod.newer o c o' c')) ∧ Below w.heap.size w w' := by
  by_cases h : o = o'
  · subst h
    go_enter Tryz.func196, Tryz.ntmps196
    go_wp2
    go_ret
    exact ⟨by simp [Mod.newer], ((Below.refl _ _).alloc (Nat.le_refl _) _).alloc (by simp) _⟩
  · have hne : ¬ (o : Int) = (o' : Int) := by omega
    have hne2 : ((o : Int) == (o' : Int)) = false := by simp; omega
    go_enter Tryz.func196, Tryz.ntmps196
    go_wp2
    go_ret
    exact ⟨by simp [Mod.newer, h], ((Below.refl _ _).alloc (Nat.le_refl _) _).alloc (by simp) _⟩
theorem tmpB {t : Array Value} {k : Nat} {c : Bool} (h : t[k]?.getD undef = .bool c) : t[k]? = some (.bool c) := by
  cases hx : t[k]? with
  | none => rw [hx] at h; simp [undef] at h
  | some v => rw [hx] at h; simp at h; rw [h]
theorem size_head : (Tryz.prog.info? 217).map (·.size) = some 5 := by kernel_rfl
theorem far_setRow (w : World) (g : Nat) (cs : Array Value) : Far (fun k => k = g) w (w.setRow g cs) := ⟨rfl, rfl, rfl, by simp, fun k _ hk => setRow_other w g k _ hk⟩
/-- A head of noughts. -/
def zHead : Value := .agg #[.int .u32 0, .int .u64 0, .int .i64 0, .int .i64 0, .int .i64 0]

set_option maxRecDepth 100000 in
set_option maxHeartbeats 2000000 in
theorem newestHead_zero (w : World) (v : Value) (n : Nat) (hat : BytesAt w v (List.replicate n 0)) (hn1 : 128 ≤ n) (hn2 : n ≤ 10000) :
    Calls Tryz.prog 146 #[v] w fun r w' => r = .returned (.tuple #[zHead, .int .i64 0, .bool true]) ∧ Below w.heap.size w w' := by
  have hS := fun (k : Nat) (hk : k * 64 + 64 ≤ n) y (hb : Below w.heap.size w y) => hide (sectorAt_zero y v n k (hat.below hb) hk hn2)
  have hN := fun y => hide (isNewer_any 0 0 0 0 y)
  rw [show Mod.newer 0 0 0 0 = false from rfl] at hN
  clear hat
  unfold zHead
  go_enter Tryz.func146, Tryz.ntmps146
  go_upto_region 2 with (first
    | (go_at_call 195; refine (unhide (hS 0 (by omega) _ ((Below.refl _ _).alloc (Nat.le_refl _) _))).mono ?_; rintro r y ⟨rfl, hb1⟩)
    | (go_at_call 194; refine (readHead_zero _).mono ?_; rintro r y2 ⟨rfl, hb2⟩))
  have hz1 := hb1.size
  have hz2 := hb2.size
  simp only [World.size_alloc] at hz1
  have hy2 : y2.heap[w.heap.size]? = some (.cells #[.int .u32 0, .int .u64 0, .int .i64 0, .int .i64 0, .int .i64 0] 217 (0, 0)) := (hb2.block _ (by omega)).trans ((hb1.block _ (by simp)).trans (heap_alloc_new w _))
  have hBy : Below w.heap.size w y2 := (((Below.refl _ _).alloc (Nat.le_refl _) _).trans (hb1.mono (by simp))).trans (hb2.mono (by omega))
  obtain ⟨g5, hg5⟩ : ∃ g, g = y2.heap.size := ⟨_, rfl⟩
  rw [← hg5]
  refine wp_world (fun x => x.heap[w.heap.size]? = some (.cells #[.int .u32 0, .int .u64 0, .int .i64 0, .int .i64 0, .int .i64 0] 217 (0, 0)) ∧ x.heap[g5]? = some (.cells #[.int .u32 0, .int .u64 0, .int .i64 0, .int .i64 0, .int .i64 0] 217 (0, 0)) ∧ Below w.heap.size w x) ?_ ?_
  · exact ⟨(heap_alloc_old _ _ (by omega)).trans hy2, by rw [hg5]; exact heap_alloc_new _ _, hBy.alloc (by omega) _⟩
  have hg5w : w.heap.size < g5 := by omega
  clear hy2 hBy hz1 hz2 hb1 hb2 hg5
  rintro x ⟨h0, h5, hB⟩
  have H0 := hide h0
  have H5 := hide h5
  have HB := hide hB
  have hzx := lt_of_block h5
  clear h0 h5 hB
  go_upto_region 5 with (first
    | (go_at_call 195; refine (unhide (hS 1 (by omega) x (unhide HB))).mono ?_; rintro r y3 ⟨rfl, hb3⟩)
    | (go_at_call 194; refine (readHead_zero _).mono ?_; rintro r y4 ⟨rfl, hb4⟩))
  have hz3 := hb3.size
  have hz4 := hb4.size
  obtain ⟨g7, hg7⟩ : ∃ g, g = y4.heap.size := ⟨_, rfl⟩
  rw [← hg7]
  refine wp_world (fun x => x.heap[w.heap.size]? = some (.cells #[.int .u32 0, .int .u64 0, .int .i64 0, .int .i64 0, .int .i64 0] 217 (0, 0)) ∧ x.heap[g5]? = some (.cells #[.int .u32 0, .int .u64 0, .int .i64 0, .int .i64 0, .int .i64 0] 217 (0, 0)) ∧ x.heap[g7]? = some (.cells #[.int .u32 0, .int .u64 0, .int .i64 0, .int .i64 0, .int .i64 0] 217 (0, 0)) ∧ Below w.heap.size w x) ?_ ?_
  · have hb : Below x.heap.size x y4 := hb3.trans (hb4.mono hz3)
    exact ⟨(heap_alloc_old _ _ (by omega)).trans ((hb.block _ (by omega)).trans (unhide H0)), (heap_alloc_old _ _ (by omega)).trans ((hb.block _ (by omega)).trans (unhide H5)), by rw [hg7]; exact heap_alloc_new _ _, ((unhide HB).trans (hb.mono (by omega))).alloc (by omega) _⟩
  have hg57 : g5 < g7 := by omega
  clear H0 H5 HB hb3 hb4 hz3 hz4 hg7 hzx
  rintro x2 ⟨h0, h5, h7, hB⟩
  have e50 : x2.cell? ⟨g5, 0, none⟩ = some (.int .u32 0) := blk_cell (i := 0) h5
  have e51 : x2.cell? ⟨g5, 1, none⟩ = some (.int .u64 0) := blk_cell (i := 1) h5
  have e70 : x2.cell? ⟨g7, 0, none⟩ = some (.int .u32 0) := blk_cell (i := 0) h7
  have e71 : x2.cell? ⟨g7, 1, none⟩ = some (.int .u64 0) := blk_cell (i := 1) h7
  have H0 := hide h0
  have H5 := hide h5
  have H7 := hide h7
  have HB := hide hB
  have hz7 := lt_of_block h7
  clear h0 h5 h7 hB
  go_upto_region 7 with (go_at_call 196; refine (unhide (hN _)).mono ?_; rintro r y5 ⟨rfl, hb5⟩)
  have hzx5 := hb5.size
  have e50 := (hb5.cell (p := ⟨g5, 0, none⟩) (by show g5 < _; omega)).trans e50
  have e51 := (hb5.cell (p := ⟨g5, 1, none⟩) (by show g5 < _; omega)).trans e51
  have e70 := (hb5.cell (p := ⟨g7, 0, none⟩) (by show g7 < _; omega)).trans e70
  have e71 := (hb5.cell (p := ⟨g7, 1, none⟩) (by show g7 < _; omega)).trans e71
  have HB5 := hide hb5
  clear hb5
  go_upto_region 9 with (go_at_call 196; refine (unhide (hN _)).mono ?_; rintro r y6 ⟨rfl, hb6⟩)
  have hb : Below x2.heap.size x2 y6 := (unhide HB5).trans (hb6.mono hzx5)
  have H0 := hide ((hb.block _ (by omega)).trans (unhide H0))
  have H5 := hide ((hb.block _ (by omega)).trans (unhide H5))
  have H7 := hide ((hb.block _ (by omega)).trans (unhide H7))
  have HB := hide ((unhide HB).trans (hb.mono (unhide HB).size))
  have hz6 := hb.size
  clear hb HB5 hb6 e50 e51 e70 e71
  have heq : ∀ y : World, (Op.equalIn 10000 217 (.agg #[.int .u32 0, .int .u64 0, .int .i64 0, .int .i64 0, .int .i64 0]) (.agg #[.int .u32 0, .int .u64 0, .int .i64 0, .int .i64 0, .int .i64 0])).run Tryz.prog y = .ok true y := fun y => by kernel_rfl
  refine wp_region_foot (by kernel_rfl)
    [fun v _ => v = zHead, fun v _ => v = zHead, fun v _ => v = zHead, fun v _ => v = .bool true, fun v _ => v = .bool true, fun v _ => v = zHead, fun v _ => v = zHead, fun v _ => v = .bool true, fun v _ => v = .bool true,
     fun _ z => z.heap[w.heap.size]? = some (.cells #[.int .u32 0, .int .u64 0, .int .i64 0, .int .i64 0, .int .i64 0] 217 (0, 0)), fun v _ => v = .int .i64 0, fun v _ => v = .bool true]
    [[], [(5, none)], [], [(44, some 1), (45, some 2)], [(46, some 3)], [(7, none), (47, some 4)], [(47, some 4)], [(48, some 5), (49, some 6), (47, some 4)], [(47, some 4), (50, some 7)], [(2, none), (43, some 0)], [], [(51, some 8)]] [some 43, some 44, some 45, some 46, some 47, some 48, some 49, some 50, some 51, none, some 3, some 4] [false, false, false, true, true, false, false, false, false, false, false, false, false, false, false, false, false, false, false, false, false, false, false, false, false, false, false, false, false, false, false, false, false, false, false, false, false, false, false, false, false, false, false, true, true, true, true, true, true, true, true, true]
    [(9, fun k => k = w.heap.size)]
    (by kernel_rfl) (by kernel_rfl) (by kernel_rfl) (by kernel_rfl) (by kernel_rfl) ?_ ?_ ?_ ?_
  · repeat' (first | exact stable_eq _ | exact stable_blk _ _ | exact trivial | apply And.intro)
  · repeat' (first | exact trivial | exact .inl rfl | exact .inr (.inr (stableF_eq _ _)) | apply And.intro)
  · refine ⟨?_, ?_, ?_, ?_, ?_, ?_, ?_, ?_, ?_, ?_, ?_, ?_, trivial⟩
    all_goals
      intro a z hb hf
      have z5 := hb.blk (unhide H5) (footBut_no (by intro q hq; simp at hq; subst hq; intro (e : g5 = w.heap.size); omega))
      have z7 := hb.blk (unhide H7) (footBut_no (by intro q hq; simp at hq; subst hq; intro (e : g7 = w.heap.size); omega))
      have e50 : z.cell? ⟨g5, 0, none⟩ = some (.int .u32 0) := blk_cell (i := 0) z5
      have e51 : z.cell? ⟨g5, 1, none⟩ = some (.int .u64 0) := blk_cell (i := 1) z5
      have e52 : z.cell? ⟨g5, 2, none⟩ = some (.int .i64 0) := blk_cell (i := 2) z5
      have e53 : z.cell? ⟨g5, 3, none⟩ = some (.int .i64 0) := blk_cell (i := 3) z5
      have e54 : z.cell? ⟨g5, 4, none⟩ = some (.int .i64 0) := blk_cell (i := 4) z5
      have e70 : z.cell? ⟨g7, 0, none⟩ = some (.int .u32 0) := blk_cell (i := 0) z7
      have e71 : z.cell? ⟨g7, 1, none⟩ = some (.int .u64 0) := blk_cell (i := 1) z7
      have e72 : z.cell? ⟨g7, 2, none⟩ = some (.int .i64 0) := blk_cell (i := 2) z7
      have e73 : z.cell? ⟨g7, 3, none⟩ = some (.int .i64 0) := blk_cell (i := 3) z7
      have e74 : z.cell? ⟨g7, 4, none⟩ = some (.int .i64 0) := blk_cell (i := 4) z7
      clear z5 z7
      simp only [PlanFacts, List.getD_cons_zero, List.getD_cons_succ, Array.getD_eq_getD_getElem?, zHead] at hf
      try simp at hf
    iterate 5
      · clear hb
        go_simp
        exact ⟨_, rfl, Far.refl _ _, rfl⟩
    iterate 3
      · clear hb
        have hg : a.tmps[47]? = some (.bool true) := tmpB (by first | exact hf | exact hf.2 | exact hf.2.2)
        go_simp
        exact ⟨_, rfl, Far.refl _ _, rfl⟩
    · clear hb
      go_simp
      exact ⟨_, rfl, Far.refl _ _, rfl⟩
    · have z0 := hb.blk (unhide H0) (by
        rintro ⟨q, hq, g1, g2, g3⟩
        simp at hq
        subst hq
        exact g1 rfl)
      clear hb
      rw [if_pos (by rfl)]
      refine wp_store_row 217 (.tmp 2) (.tmp 43) rfl w.heap.size #[.int .u32 0, .int .u64 0, .int .i64 0, .int .i64 0, .int .i64 0] (by simp [Act.eval, hf]) (by simp [Act.eval, hf]) 217 _ z0 (by rw [size_head]; rfl) rfl (by rw [Array.all_eq_true_iff_forall_mem]; intro u hu; simp at hu; rcases hu with rfl | rfl | rfl <;> rfl) ?_
      exact ⟨_, rfl, footOf_of (.head _) (far_setRow _ _ _), setRow_heap _ _ _ _ _ _ z0⟩
    · clear hb
      go_simp
      exact ⟨_, rfl, Far.refl _ _, rfl⟩
    · clear hb
      go_simp
      exact ⟨_, rfl, Far.refl _ _, rfl⟩
  · intro f z hF hwd
    have h9 := hwd.2.2.2.2.2.2.2.2.2.1
    have h10 := hwd.2.2.2.2.2.2.2.2.2.2.1
    have h11 := hwd.2.2.2.2.2.2.2.2.2.2.2.1
    have q0 : z.cell? ⟨w.heap.size, 0, none⟩ = some (.int .u32 0) := blk_cell (i := 0) h9
    have q1 : z.cell? ⟨w.heap.size, 1, none⟩ = some (.int .u64 0) := blk_cell (i := 1) h9
    have q2 : z.cell? ⟨w.heap.size, 2, none⟩ = some (.int .i64 0) := blk_cell (i := 2) h9
    have q3 : z.cell? ⟨w.heap.size, 3, none⟩ = some (.int .i64 0) := blk_cell (i := 3) h9
    have q4 : z.cell? ⟨w.heap.size, 4, none⟩ = some (.int .i64 0) := blk_cell (i := 4) h9
    have HBZ := hide ((unhide HB).trans (hF.below (unhide HB).size (fun k hk h => by
      obtain ⟨q, hq, h⟩ := h
      simp at hq
      subst hq
      have h : k = w.heap.size := h
      omega)))
    clear hwd hF h9
    simp only [mergeT, h10, h11]
    generalize f 43 = x43
    generalize f 44 = x44
    generalize f 45 = x45
    generalize f 46 = x46
    generalize f 47 = x47
    generalize f 48 = x48
    generalize f 49 = x49
    generalize f 50 = x50
    generalize f 51 = x51
    go_simp
    go_wp2
    exact bodyPost_ret (v := .tuple #[.agg #[.int .u32 0, .int .u64 0, .int .i64 0, .int .i64 0, .int .i64 0], .int .i64 0, .bool true]) (by simp [results, Tryz.results146, go_sem, q0, q1, q2, q3, q4]) rfl ⟨rfl, unhide HBZ⟩
end Go.Proofs.YtamafdcnbcoegaaGreat
namespace Go.Proofs.YtamafdcnbcoegaaGreat
open Go.RowKit

/-- Records of noughts, as cells. -/
def zRecs : Nat → List Value
  | 0 => []
  | k + 1 => zRecs k ++ [.int .i64 0, .int .i64 0, .string ⟨#[]⟩]
theorem length_zRecs : ∀ k, (zRecs k).length = k * 3
  | 0 => rfl
  | k + 1 => by rw [zRecs, List.length_append, length_zRecs k]; simp; omega
theorem info_rec : (Tryz.prog.info? 155).map (fun i => (i.zero, i.size, i.bytes)) = some (some (.agg #[.int .i64 0, .int .i64 0, .string ⟨#[]⟩]), 3, 32) := by kernel_rfl

set_option maxRecDepth 100000 in
set_option maxHeartbeats 400000 in
theorem readRecords_zero (w : World) (v : Value) (m : Nat) (last : Nat) (hat : BytesAt w v (List.replicate (m * 64) 0)) (hm1 : 2 ≤ m) (hm2 : m ≤ 150) :
    Calls Tryz.prog 147 #[v, .int .u32 last] w fun r w' => ∃ rv, r = .returned (.tuple #[rv, .bool true]) ∧ w'.ownsRow w.heap.size 155 3 rv (m - 2) (zRecs (m - 2)) ∧ Below w.heap.size w w' := by
  obtain ⟨i0, hi, hz0, hz1, hz2⟩ := info_parts2 info_rec
  have hS := fun (k : Nat) (hk : k * 64 + 64 ≤ m * 64) y (hb : Below w.heap.size w y) => hide (sectorAt_zero y v (m * 64) k (hat.below hb) hk (by omega))
  obtain ⟨ad, cap, rfl, hc1, hc2, hc3⟩ := hat
  clear hc3
  have hlen : (List.replicate (m * 64) (0 : UInt8)).length = m * 64 := by simp
  rw [hlen] at hc1 hc2 hS ⊢
  have hq : (((m * 64 : Nat) : Int)).tdiv 64 = (m : Int) := by rw [Int.natCast_mul]; exact Int.mul_tdiv_cancel _ (by omega)
  clear hlen
  obtain ⟨n, hn⟩ : ∃ n, n = m * 64 := ⟨_, rfl⟩
  rw [← hn] at hq hS hc1 hc2 ⊢
  have hjm : ∀ j, j < m → j * 64 + 64 ≤ n := by intro j hj; omega
  clear hn
  go_enter Tryz.func147, Tryz.ntmps147
  go_wp2
  go_loopw [6, 7, 8, 9] (fun v6 i _ _ wr => ∃ j : Nat, 2 ≤ j ∧ j ≤ m ∧ i = .int .i64 j ∧ wr.ownsRow w.heap.size 155 3 v6 (j - 2) (zRecs (j - 2)) ∧ Below w.heap.size w wr) (fun _ i _ _ _ => m - (intOf i).toNat)
  case atStart => exact ⟨2, by omega, by omega, rfl, World.ownsRow_nil _ _ _ _, Below.refl _ _⟩
  case round =>
    obtain ⟨j, hj1, hj2, rfl, ho, hb⟩ := hrel
    by_cases hlt : j < m
    · have HO := hide ho
      have hSj := unhide (hS j (hjm j hlt) wr hb)
      have HSJ := hide hSj
      have HB := hide hb
      have hsz := hb.size
      have HLZ := hide (length_zRecs (j - 2))
      clear ho hb hSj hS hjm
      have HI := hide (And.intro hi (And.intro hz0 (And.intro hz1 hz2)))
      clear hi hz0 hz1 hz2
      go_upto_region 6 with (first
        | (go_at_call 195; refine (unhide HSJ).mono ?_; rintro r y ⟨rfl, hb1⟩)
        | (go_at_call 197; refine (readRecord_zero _ _).mono ?_; rintro r y2 ⟨rfl, hb2⟩))
      have hb12 : Below wr.heap.size wr y2 := hb1.trans (hb2.mono hb1.size)
      obtain ⟨g8, hg8⟩ : ∃ g, g = y2.heap.size := ⟨_, rfl⟩
      rw [← hg8]
      refine wp_world (fun x => x.heap[g8]? = some (.cells #[.int .i64 0, .int .i64 0, .string ⟨#[]⟩] 155 (0, 0)) ∧ Below wr.heap.size wr x) ?_ ?_
      · exact ⟨by rw [hg8]; exact heap_alloc_new _ _, hb12.alloc hb12.size _⟩
      clear hb1 hb2 hb12 hg8
      rintro x ⟨h8, hbx⟩
      have e0 : x.cell? ⟨g8, 0, none⟩ = some (.int .i64 0) := blk_cell (i := 0) h8
      have e1 : x.cell? ⟨g8, 1, none⟩ = some (.int .i64 0) := blk_cell (i := 1) h8
      have e2 : x.cell? ⟨g8, 2, none⟩ = some (.string ⟨#[]⟩) := blk_cell (i := 2) h8
      have hOx := ownsRow_keepB (w' := x) (unhide HO) (fun g hg => hbx.block g (World.ownsRow.lt (unhide HO) g hg).2)
      have hbw : Below w.heap.size w x := (unhide HB).trans (hbx.mono hsz)
      have HOX := hide hOx
      have HBX := hide hbw
      have hszx := hbw.size
      clear h8 hbx hOx hbw HO HB
      go_upto_region 4 with (at_builtin; obtain ⟨hi, hz0, hz1, hz2⟩ := unhide HI; refine wpList_append_own _ rfl (.tmp 27) (.tmp 29) 185 rfl w.heap.size 155 i0 _ 3 32 Tryz.underlying185 hi hz0 hz1 hz2 rfl (by decide) u6 (j - 2) (zRecs (j - 2)) rfl ((unhide HOX).alloc _) ⟨x.heap.size, 0, none⟩ 1 1 [.int .i64 0, .int .i64 0, .string ⟨#[]⟩] rfl rfl cells_new (by intro u hu; simp at hu; rcases hu with rfl | rfl <;> rfl) (by unfold maxLen; omega) (by omega) (by simp; omega) ?_; intro v' w1 hown' hgrow _; have hb3 : Below w.heap.size x w1 := ((Below.refl _ x).alloc hszx _).trans (below_grown_new (B := w.heap.size) hgrow (by simp; omega) (fun g' hg' => (World.ownsRow.lt (unhide HOX) g' hg').1)); replace hown' := hide hown'; replace hb3 := hide hb3; clear hgrow hi hz0 hz1 hz2; go_simp)
      have hw : IntKind.i64.wrap ((j : Int) + 1) = (j : Int) + 1 := by rw [IntKind.wrap_i64]; omega
      go_wp2
      refine ⟨⟨j + 1, by omega, by omega, by go_num, ?_, (unhide HBX).trans (unhide hb3)⟩, ?_⟩
      · have e : j + 1 - 2 = (j - 2) + 1 := by omega
        rw [e]
        exact unhide hown'
      · simp [intOf]
        omega
    · have e : j = m := by omega
      subst e
      go_wp2
      go_ret2
      exact ⟨_, rfl, ho, hb⟩
end Go.Proofs.YtamafdcnbcoegaaGreat
namespace Go.Proofs.YtamafdcnbcoegaaGreat
open Go.RowKit

set_option maxRecDepth 100000 in
set_option maxHeartbeats 1000000 in
theorem cloneBytes_any (w : World) (v : Value) (L : List UInt8) (hat : BytesAt w v L) (h0 : 0 < L.length) (hL : L.length ≤ 10000) :
    Calls Tryz.prog 192 #[v] w fun r w' => ∃ v', r = .returned v' ∧ Owns w.heap.size w' v' L ∧ Below w.heap.size w w' := by
  obtain ⟨ad, cap, rfl, h1, h2, h3⟩ := hat
  obtain ⟨b, off, rfl, hc⟩ := h3 h0
  obtain ⟨n, hn⟩ : ∃ n, n = L.length := ⟨_, rfl⟩
  rw [← hn] at h0 hL h1 h2 hc ⊢
  have HC := hide hc
  have HN := hide hn
  clear hc hn h3
  have hO : Owns w.heap.size (w.alloc (.cells #[] 5)) (.slice (some ⟨w.heap.size, 0, none⟩) 0 0) [] :=
    ⟨by simp [bv], .inr ⟨w.heap.size, 0, _, rfl, Nat.le_refl _, heap_alloc_new w _, by simp, by unfold maxLen; omega, by simp, by simp [bv]⟩⟩
  have HO := hide hO
  clear hO
  have heq : ∀ y : World, (binOp .eql 44 (.slice (some ⟨b, off, none⟩) n cap) (.slice none 0 0)).run Tryz.prog y = .ok (.bool false) y := fun y => by
    have := run_equal_slice_nil (P := Tryz.prog) y 44 5 (some ⟨b, off, none⟩) n cap Tryz.underlying44
    simp [binOp, this]
  go_enter Tryz.func192, Tryz.ntmps192
  go_wp2_with (at_builtin; refine wp_app_bytes rfl (.tmp 5) (.tmp 6) rfl w.heap.size _ [] (unhide HO) rfl ⟨b, off, none⟩ n cap L rfl (unhide HN).symm (by
    intro j u hj
    have hjl : j < L.length := by
      have := (List.getElem?_eq_some_iff.1 hj).1
      rw [bv_length] at this; exact this
    rw [bv_get hjl] at hj
    cases hj
    have h := (unhide HC) j (by rw [unhide HN]; exact hjl)
    rw [add_mk]
    exact (World.cell?_alloc_lt w _ ⟨b, off + j, none⟩ (World.block_lt_of_cell? _ _ h)).trans h) (by simp; omega) (by simp) ?_; intro v' w' hown hg; go_simp)
  go_ret
  exact ⟨v', rfl, by simpa using hown, ((Below.refl _ _).alloc (Nat.le_refl _) _).trans (below_grown_new (B := w.heap.size) hg (by simp) (fun g hg => by simp [Value.ownBlock] at hg; omega))⟩

set_option maxHeartbeats 1000000 in
theorem diskNew_any (w : World) (v : Value) (L : List UInt8) (hat : BytesAt w v L) (h0 : 128 ≤ L.length) (hL : L.length ≤ 10000) :
    Calls Tryz.prog 148 #[v] w fun r w' => ∃ p lv, r = .returned (ptrTo p) ∧ DkAt w' p ⟨L, 0, false⟩ lv (.slice none 0 0) ∧ Below w.heap.size w w' ∧ ∀ k, DkU p lv (.slice none 0 0) k → w.heap.size ≤ k := by
  have HC := hide (cloneBytes_any w v L hat (by omega) hL)
  clear hat
  unfold ptrTo
  go_enter Tryz.func148, Tryz.ntmps148
  go_wp2_with (go_at_call 192; refine (unhide HC).mono ?_; rintro r y ⟨lv, rfl, hown, hb⟩; obtain ⟨ad, cap, rfl, _⟩ := hown.shape; replace hown := hide hown; replace hb := hide hb)
  go_ret
  have ho := unhide hown
  have hb := unhide hb
  refine ⟨_, _, rfl, ⟨heap_alloc_new y _, ?_, rowO_nil _ _ _, ⟨h0, hL⟩, by simp⟩, hb.alloc hb.size _, ?_⟩
  · exact World.ownsRow.alloc (ho.mono (Nat.zero_le _)) _
  · rintro k (rfl | hk | hk)
    · exact hb.size
    · exact (ho.lt k hk).1
    · cases hk
end Go.Proofs.YtamafdcnbcoegaaGreat
