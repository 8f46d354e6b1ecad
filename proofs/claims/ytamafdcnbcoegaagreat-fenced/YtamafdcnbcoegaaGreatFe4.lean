/-
  Part 4 of a proof: S2, S3, S4, S6, D8, S7A, S8A, S9A, D9.
-/
import Derived.Test.YtamafdcnbcoegaaGreatFe3
namespace Go.Proofs.YtamafdcnbcoegaaGreat
open Go.RowKit
def NumsAt (w : World) (v : Value) (ns : List Nat) : Prop := w.ownsRow 0 3 1 v ns.length (numCells ns)
theorem nums_get {ns : List Nat} {i : Nat} (h : i < ns.length) : (numCells ns)[i]? = some (.int .i64 (ns.getD i 0 : Nat)) := by
 simp [numCells, h, List.getD_eq_getElem?_getD]
theorem numCells_one (ns : List Nat) : ∀ u ∈ numCells ns, u.oneCell' = true := by
 intro u hu
 obtain ⟨n, _, rfl⟩ := List.mem_map.1 hu
 rfl
theorem numsAt_nil (w : World) : NumsAt w (.slice none 0 0) [] := World.ownsRow_nil _ _ _ _
theorem NumsAt.keep {w w' : World} {v : Value} {ns : List Nat} (h : NumsAt w v ns) (hk : ∀ g, v.ownBlock = some g → w'.heap[g]? = w.heap[g]?) : NumsAt w' v ns := ownsRow_keep h hk
theorem NumsAt.cases {w : World} {v : Value} {ns : List Nat} (h : NumsAt w v ns) : (v = .slice none 0 0 ∧ ns = []) ∨
  ∃ g cap cur, v = .slice (some ⟨g, 0, none⟩) ns.length cap ∧ w.heap[g]? = some (.cells cur 3 (0, 0)) ∧ ns.length ≤ cap ∧ cap ≤ maxLen ∧ cur.size = cap ∧ cur.toList.take ns.length = numCells ns := by
 obtain ⟨h1, h2⟩ := h
 rcases h2 with ⟨h2, h3⟩ | ⟨g, cap, cur, rfl, _, hh, hn, hc, hs, ht⟩
 ·exact .inl ⟨h2, List.eq_nil_of_length_eq_zero h3⟩
 ·exact .inr ⟨g, cap, cur, rfl, hh, hn, hc, by simpa using hs, by simpa using ht⟩
theorem NumsAt.cell' {w : World} {g n cap k : Nat} {ns : List Nat} (h : NumsAt w (.slice (some ⟨g, 0, none⟩) n cap) ns) (hk : k < ns.length) : w.cell? ⟨g, k, none⟩ = some (.int .i64 (ns.getD k 0 : Nat)) := by
 have h0 := h
 rcases h.cases with ⟨e, _⟩ | ⟨g', cap', cur, e, hh, hn, hc, hs, ht⟩
 ·cases e
 ·injection e with e1 e2 e3
  injection e1 with e1
  injection e1 with e1
  subst e1 e2 e3
  rw [World.ownsRow.cellAt h0 k (by omega), nums_get hk]
theorem numsAt_mk {w : World} {ns : List Nat} {g cap : Nat} {cur : Array Value} (hh : w.heap[g]? = some (.cells cur 3 (0, 0))) (hn : ns.length ≤ cap) (hc : cap ≤ maxLen) (hs : cur.size = cap) (ht : cur.toList.take ns.length = numCells ns) :
  NumsAt w (.slice (some ⟨g, 0, none⟩) ns.length cap) ns :=
 ⟨by simp [numCells], .inr ⟨g, cap, cur, rfl, Nat.zero_le _, hh, hn, hc, by simpa using hs, by simpa using ht⟩⟩
theorem numsAt_mk' {w : World} {ns : List Nat} {g n cap : Nat} {cur : Array Value} (hh : w.heap[g]? = some (.cells cur 3 (0, 0))) (hn : ns.length = n) (hl : n ≤ cap) (hc : cap ≤ maxLen) (hs : cur.size = cap) {rest : List Value} (ht : cur.toList = numCells ns ++ rest) :
  NumsAt w (.slice (some ⟨g, 0, none⟩) n cap) ns := by
 subst hn
 exact numsAt_mk hh hl hc hs (by rw [ht, List.take_append_of_le_length (by simp [numCells]), List.take_of_length_le (by simp [numCells])])
theorem zeros_size (n : Nat) : (Builtin.zeroCells (Value.int .i64 0).cells n).size = n := by
 rw [size_zeroCells]
 show n * 1 = n
 omega
theorem setCells_blk {b : Nat} {e : TypeId} {fr : Nat × Nat} : ∀ (vs : List Value) (o : Nat) (w : World) (cur : Array Value), w.heap[b]? = some (.cells cur e fr) → o + vs.length ≤ cur.size →
  ∃ c, (w.setCells b o vs).heap[b]? = some (.cells c e fr) ∧ c.size = cur.size ∧ c.toList = cur.toList.take o ++ vs ++ cur.toList.drop (o + vs.length)
 | [], o, w, cur, h, _ => ⟨cur, h, rfl, by simp⟩
 | v :: r, o, w, cur, h, hl => by
  have hol : o < cur.size := by simp at hl; omega
  obtain ⟨c, h1, h2, h3⟩ := setCells_blk r (o + 1) (w.setCell ⟨b, o, none⟩ v) _ (blk_set h) (by simp at hl ⊢; omega)
  refine ⟨c, h1, by rw [h2]; simp, ?_⟩
  rw [h3, Array.toList_setIfInBounds]
  have e1 : (cur.toList.set o v).take (o + 1) = cur.toList.take o ++ [v] := by
   rw [List.take_add_one, List.take_set_of_le (Nat.le_refl _)]
   simp [hol]
  have e2 : (cur.toList.set o v).drop (o + 1 + r.length) = cur.toList.drop (o + (v :: r).length) := by
   rw [List.drop_set_of_lt (by omega)]
   congr 1
   simp
   omega
  rw [e1, e2]
  simp
theorem far_setCells (b : Nat) : ∀ (vs : List Value) (o : Nat) (w : World), Far (fun k => k = b) w (w.setCells b o vs)
 | [], _, w => Far.refl _ w
 | v :: r, o, w => (far_set w b o v).trans (far_setCells b r (o + 1) _) (fun _ _ h => h)
theorem far_drewN (E : Nat → Prop) (w : World) (n : Nat) : Far E w (w.drewN n) := ⟨rfl, rfl, rfl, Nat.le_refl _, fun _ _ _ => rfl⟩
theorem ints_countP (ns : List Nat) (x : Nat) : ((ns.map Int.ofNat).countP (· < (x : Int))) = ns.countP (· < x) := by
 rw [List.countP_map]
 apply List.countP_congr
 intro a _
 simp
theorem ints_contains (ns : List Nat) (x : Nat) : ((ns.map Int.ofNat).contains (x : Int)) = ns.contains x := by
 induction ns with
 | nil => rfl
 | cons a r ih =>
  simp only [List.map_cons, List.contains_cons, ih]
  congr 1
  rw [Bool.eq_iff_iff]
  simp only [beq_iff_eq]
  exact Int.ofNat_inj
theorem search_any {w : World} {v : Value} {ns : List Nat} (h : NumsAt w v ns) (hs : ns.Pairwise (· < ·)) (hl : ns.length ≤ 1000000) (x : Nat) :
  Calls Tryz.prog 132 #[v, .int .i64 x] w fun e w' => e = .returned (.tuple #[.int .i64 (ns.countP (· < x) : Nat), .bool (ns.contains x)]) ∧ ∃ q, w' = w.drewN q := by
 rcases h.cases with ⟨rfl, rfl⟩ | ⟨g, cap, cur, rfl, hh, hn, hc, hz, ht⟩
 ·refine (Tryz.slices_BinarySearch_int_empty none 0 x w).mono ?_
  rintro e w' ⟨rfl, rfl⟩
  exact ⟨rfl, 0, rfl⟩
 ·have hb := Tryz.slices_BinarySearch_int g 0 ns.length cap (ns.map Int.ofNat) x w (by simp) (by omega) (fun j hj => by
   have hj' : j < ns.length := by simpa using hj
   rw [Nat.zero_add, World.ownsRow.cellAt h j (by omega), nums_get hj']
   simp [List.getD_eq_getElem?_getD, hj']) (by
   rw [List.take_of_length_le (by simp), List.pairwise_map]
   exact hs.imp (fun h => by simp; omega))
  refine hb.mono ?_
  rintro e w' ⟨rfl, q, rfl⟩
  rw [List.take_of_length_le (by simp), ints_countP, ints_contains]
  exact ⟨rfl, q, rfl⟩
theorem drop_cells {ns : List Nat} (i : Nat) : (numCells ns).drop i = numCells (ns.drop i) := by simp [numCells]
theorem take_cells {ns : List Nat} (i : Nat) : (numCells ns).take i = numCells (ns.take i) := by simp [numCells]
theorem nums_len (ns : List Nat) : (numCells ns).length = ns.length := by simp [numCells]
theorem ins_end_grow (base : Option Addr) (n c q : Nat) (cs : List Value) (x : Value) (w : World) (hnc : n ≤ c) (hroom : c < n + 1) (hbig : (n + 1) * 8 ≤ 140737488355328) (hcl : cs.length = n) (hnil : base = none → n = 0)
  (hcs : ∀ a, base = some a → ∀ j v, cs[j]? = some v → w.cell? (a.add j) = some v) (hvs : ∀ j v, [x][j]? = some v → w.cell? ⟨q, 0 + j, none⟩ = some v) (h1v : ∀ v ∈ [x], v.oneCell' = true) :
  Calls Tryz.prog 133 #[.slice base n c, .int .i64 n, .slice (some ⟨q, 0, none⟩) 1 1] w fun e w' => e = .returned (.slice (some ⟨w.heap.size, 0, none⟩) (n + 1) (grownCap w (n + 1) c 3)) ∧
   w' = w.drew.alloc (.cells ((cs ++ [x]).toArray ++ Builtin.zeroCells (Value.int .i64 0).cells (grownCap w (n + 1) c 3 - (n + 1))) 3) :=
 Any2.slices_Insert_int_end_grow Tryz.laysNm221 base n c q 0 1 1 cs [x] w (by omega) hnc hroom hbig hcl rfl hnil hcs hvs h1v
theorem ins_grow (b n c i q : Nat) (cs : List Value) (x : Value) (w : World) (hi : i < n) (hnc : n ≤ c) (hroom : c < n + 1) (hbig : (n + 1) * 8 ≤ 140737488355328) (hcl : cs.length = n)
  (hcs : ∀ j v, cs[j]? = some v → w.cell? ⟨b, 0 + j, none⟩ = some v) (hvs : ∀ j v, [x][j]? = some v → w.cell? ⟨q, 0 + j, none⟩ = some v) (h1c : ∀ v ∈ cs, v.oneCell' = true) (h1v : ∀ v ∈ [x], v.oneCell' = true) :
  Calls Tryz.prog 133 #[.slice (some ⟨b, 0, none⟩) n c, .int .i64 i, .slice (some ⟨q, 0, none⟩) 1 1] w fun e w' => e = .returned (.slice (some ⟨w.heap.size, 0, none⟩) (n + 1) (grownCap w (n + 1) c 3)) ∧
   w' = (((w.alloc (.cells ((cs.take i).toArray ++ Builtin.zeroCells (Value.int .i64 0).cells (n + 1 - i) ++ Builtin.zeroCells (Value.int .i64 0).cells (grownCap w (n + 1) c 3 - (n + 1))) 3)).drew.setCells w.heap.size i [x]).drew).setCells w.heap.size (i + 1) (cs.drop i) :=
 Any2.slices_Insert_int_grow Tryz.laysNm221 b 0 n c i q 0 1 1 cs [x] w hi (by omega) hnc hroom hbig hcl rfl hcs hvs h1c h1v
theorem insert_any {w : World} {v : Value} {ns : List Nat} (h : NumsAt w v ns) (hl : ns.length ≤ 1000000) (k x q : Nat) (hk : k ≤ ns.length) {t : TypeId} (hq : w.heap[q]? = some (.cells #[.int .i64 x] t (0, 0))) (hqv : v.ownBlock ≠ some q) :
  Calls Tryz.prog 133 #[v, .int .i64 k, .slice (some ⟨q, 0, none⟩) 1 1] w fun e w' => ∃ v', e = .returned v' ∧ NumsAt w' v' (ns.take k ++ x :: ns.drop k) ∧
   Far (fun b => v.ownBlock = some b) w w' ∧ Loc w v v' := by
 have hvs : ∀ j u, [Value.int .i64 x][j]? = some u → w.cell? ⟨q, 0 + j, none⟩ = some u := by
  intro j u hj
  rw [blk_cell hq, Nat.zero_add]
  simpa using hj
 have h1v : ∀ u ∈ [Value.int .i64 x], u.oneCell' = true := by simp [Value.oneCell']
 have hlen : (ns.take k ++ x :: ns.drop k).length = ns.length + 1 := by simp; omega
 have hout : numCells (ns.take k ++ x :: ns.drop k) = numCells (ns.take k) ++ [.int .i64 x] ++ numCells (ns.drop k) := by simp [numCells]
 have grownc : ∀ (a : Nat), grownCap w (ns.length + 1) a 3 ≤ maxLen := fun a => grownCap_le_maxLen w _ _ _ (by unfold maxLen; omega)
 have growng : ∀ (a : Nat), ns.length + 1 ≤ grownCap w (ns.length + 1) a 3 := fun a => grownCap_ge w _ _ _
 rcases h.cases with ⟨rfl, rfl⟩ | ⟨g, cap, cur, rfl, hh, hn, hc, hz, ht⟩
 ·obtain rfl : k = 0 := by simpa using hk
  refine (ins_end_grow none 0 0 q [] (.int .i64 x) w (by omega) (by omega) (by omega) rfl (fun _ => rfl) (fun a ha => by cases ha) hvs h1v).mono ?_
  rintro e w' ⟨rfl, rfl⟩
  refine ⟨_, rfl, ?_, ?_, .inr (.inr ⟨_, rfl, Nat.le_refl _⟩)⟩
  ·have hg := growng 0
   refine numsAt_mk' (heap_alloc_new w.drew _) hlen hg (grownc 0) ?_ (rest := (Builtin.zeroCells (Value.int .i64 0).cells (grownCap w (0 + 1) 0 3 - (0 + 1))).toList) ?_
   ·rw [Array.size_append, zeros_size]
    simp only [List.nil_append, List.size_toArray, List.length_cons, List.length_nil] at hg ⊢
    omega
   ·rw [Array.toList_append]
    rfl
  ·exact (far_drewN _ w 1).trans (far_below ((Below.refl _ _).alloc (Nat.le_refl _) _)) (fun _ _ h => h)
 ·have hqg : q ≠ g := fun e => hqv (by rw [e]; rfl)
  have hcs : ∀ j u, (numCells ns)[j]? = some u → w.cell? ⟨g, 0 + j, none⟩ = some u := by
   intro j u hj
   have hjl : j < ns.length := by
    have := (List.getElem?_eq_some_iff.1 hj).1
    rwa [nums_len] at this
   rw [Nat.zero_add, World.ownsRow.cellAt h j (by omega)]
   exact hj
  have hf : ∀ j, w.frozen? ⟨g, j, none⟩ = false := fun j => by simp [World.frozen?, hh]
  have hfq : ∀ j, w.frozen? ⟨q, j, none⟩ = false := fun j => by simp [World.frozen?, hq]
  have hcell : ∀ j, j < cap → (w.cell? ⟨g, j, none⟩).isSome = true := fun j hj => by rw [blk_cell hh]; simp [hz, hj]
  have hmx : cap ≤ 9223372036854775807 := by unfold maxLen at hc; omega
  have hk1 : (numCells (ns.take k)).length = k := by rw [nums_len, List.length_take]; omega
  have hdl : ((numCells ns).drop k).length = ns.length - k := by simp [numCells]
  by_cases hkn : k = ns.length
  ·have hout2 : numCells (ns.take k ++ x :: ns.drop k) = numCells ns ++ [.int .i64 x] := by
    rw [hout, hkn]; simp [numCells]
   have hkk : (k : Int) = (ns.length : Int) := by rw [hkn]
   rw [hkk]
   by_cases hroom : ns.length + 1 ≤ cap
   ·refine (Any2.slices_Insert_int_end_room Tryz.laysNm221 g 0 ns.length cap q 0 1 1 [.int .i64 x] w (by omega) hroom hmx rfl (fun j hj => by rw [Nat.zero_add]; exact hcell _ (by omega)) (fun j _ => hf _) hvs h1v).mono ?_
    rintro e w' ⟨rfl, rfl⟩
    obtain ⟨c, e1, e2, e3⟩ := setCells_blk [Value.int .i64 x] (0 + ns.length) w cur hh (by simp; omega)
    refine ⟨_, rfl, ?_, (far_setCells g _ _ w).mono (fun b _ hb => by rw [hb]; rfl), .inr (.inl rfl)⟩
    exact numsAt_mk' e1 hlen hroom hc (by rw [e2, hz]) (by rw [e3, hout2, Nat.zero_add, ht])
   ·refine (ins_end_grow (some ⟨g, 0, none⟩) ns.length cap q (numCells ns) (.int .i64 x) w hn (by omega) (by omega) (nums_len _) (fun h => by cases h) (fun a ha j u hj => by
     cases ha
     rw [Addr.add_lit]
     exact hcs j u hj) hvs h1v).mono ?_
    rintro e w' ⟨rfl, rfl⟩
    refine ⟨_, rfl, ?_, ?_, .inr (.inr ⟨_, rfl, Nat.le_refl _⟩)⟩
    ·have hg := growng cap
     refine numsAt_mk' (heap_alloc_new w.drew _) hlen hg (grownc cap) ?_ (rest := (Builtin.zeroCells (Value.int .i64 0).cells (grownCap w (ns.length + 1) cap 3 - (ns.length + 1))).toList) ?_
     ·rw [Array.size_append, zeros_size, List.size_toArray, List.length_append, nums_len, List.length_singleton]
      omega
     ·rw [hout2, Array.toList_append]
    ·exact (far_drewN _ w 1).trans (far_below ((Below.refl _ _).alloc (Nat.le_refl _) _)) (fun _ _ h => h)
  ·have hkl : k < ns.length := by omega
   by_cases hroom : ns.length + 1 ≤ cap
   ·refine (Any2.slices_Insert_int_shift Tryz.laysNm221 g 0 ns.length cap k q 0 1 1 (numCells ns) [.int .i64 x] w hkl (by omega) hroom hmx hqg (nums_len _) rfl hcs (fun j hj => by rw [Nat.zero_add]; exact hcell _ (by omega)) (fun j _ => hf _) hvs (numCells_one ns) h1v
     t 3 1 cap (by simp [World.shape?, hq]) (by simp [World.shape?, hh, hz]) (by omega) (hfq _) (hfq _)).mono ?_
    rintro e w' ⟨rfl, rfl⟩
    obtain ⟨c, e1, e2, e3⟩ := setCells_blk ((numCells ns).drop k) (0 + (k + 1)) w.drew cur hh (by rw [hdl, hz]; omega)
    obtain ⟨c', e1', e2', e3'⟩ := setCells_blk [Value.int .i64 x] (0 + k) _ c e1 (by rw [e2, hz]; simp; omega)
    refine ⟨_, rfl, ?_, ?_, .inr (.inl rfl)⟩
    ·refine numsAt_mk' e1' hlen hroom hc (by rw [e2', e2, hz]) (rest := cur.toList.drop (ns.length + 1)) ?_
     rw [e3', hout, e3]
     have a1 : (cur.toList.take (0 + (k + 1)) ++ (numCells ns).drop k ++ cur.toList.drop (0 + (k + 1) + ((numCells ns).drop k).length)).take (0 + k) = numCells (ns.take k) := by
      rw [List.append_assoc, List.take_append_of_le_length (by simp; omega), List.take_take, Nat.min_eq_left (by omega), Nat.zero_add, ← take_cells, ← ht, List.take_take, Nat.min_eq_left (by omega)]
     have a3 : 0 + k + [Value.int .i64 (x : Int)].length = 0 + (k + 1) := by simp
     have a4 : (cur.toList.take (0 + (k + 1))).length = 0 + (k + 1) := by simp; omega
     have a5 : 0 + (k + 1) + ((numCells ns).drop k).length = ns.length + 1 := by rw [hdl]; omega
     rw [a1, a3, a5, List.append_assoc (cur.toList.take _), List.drop_append_of_le_length (by rw [a4]; omega), List.drop_of_length_le (by rw [a4]; omega), List.nil_append, drop_cells]
     simp only [List.append_assoc]
    ·have f1 := (far_drewN (fun k => k = g) w 1).trans (far_setCells g ((numCells ns).drop k) (0 + (k + 1)) w.drew) (fun _ _ h => h)
     exact (f1.trans (far_setCells g _ _ _) (fun _ _ h => h)).mono (fun b _ hb => by rw [hb]; rfl)
   ·refine (ins_grow g ns.length cap k q (numCells ns) (.int .i64 x) w hkl hn (by omega) (by omega) (nums_len _) hcs hvs (numCells_one ns) h1v).mono ?_
    rintro e w' ⟨rfl, rfl⟩
    have hg := growng cap
    have hcm := grownc cap
    have hfa : Far (fun _ => False) w (w.alloc (.cells (((numCells ns).take k).toArray ++ Builtin.zeroCells (Value.int .i64 0).cells (ns.length + 1 - k) ++ Builtin.zeroCells (Value.int .i64 0).cells (grownCap w (ns.length + 1) cap 3 - (ns.length + 1))) 3)) := far_below ((Below.refl _ _).alloc (Nat.le_refl _) _)
    have hA := heap_alloc_new w (.cells (((numCells ns).take k).toArray ++ Builtin.zeroCells (Value.int .i64 0).cells (ns.length + 1 - k) ++ Builtin.zeroCells (Value.int .i64 0).cells (grownCap w (ns.length + 1) cap 3 - (ns.length + 1))) 3)
    have hs0 : (((numCells ns).take k).toArray ++ Builtin.zeroCells (Value.int .i64 0).cells (ns.length + 1 - k) ++ Builtin.zeroCells (Value.int .i64 0).cells (grownCap w (ns.length + 1) cap 3 - (ns.length + 1))).size = grownCap w (ns.length + 1) cap 3 := by
     rw [Array.size_append, Array.size_append, zeros_size, zeros_size]
     simp [nums_len]
     omega
    have hp0 : ∃ r, (((numCells ns).take k).toArray ++ Builtin.zeroCells (Value.int .i64 0).cells (ns.length + 1 - k) ++ Builtin.zeroCells (Value.int .i64 0).cells (grownCap w (ns.length + 1) cap 3 - (ns.length + 1))).toList = numCells (ns.take k) ++ r := ⟨_, by
     rw [Array.append_assoc, Array.toList_append, take_cells]⟩
    obtain ⟨r, hp⟩ := hp0
    generalize grownCap w (ns.length + 1) cap 3 = gc at *
    generalize (((numCells ns).take k).toArray ++ Builtin.zeroCells (Value.int .i64 0).cells (ns.length + 1 - k) ++ Builtin.zeroCells (Value.int .i64 0).cells (gc - (ns.length + 1))) = arr at *
    generalize hW : w.alloc (.cells arr 3) = W at *
    obtain ⟨c, e1, e2, e3⟩ := setCells_blk [Value.int .i64 x] k W.drew arr hA (by simp; omega)
    obtain ⟨c', e1', e2', e3'⟩ := setCells_blk ((numCells ns).drop k) (k + 1) (W.drew.setCells w.heap.size k [Value.int .i64 x]).drew c e1 (by rw [e2, hdl]; omega)
    have a2 : (numCells (ns.take k) ++ [Value.int .i64 (x : Int)]).length = k + 1 := by simp [hk1]
    refine ⟨_, rfl, ?_, ?_, .inr (.inr ⟨_, rfl, Nat.le_refl _⟩)⟩
    ·refine numsAt_mk' e1' hlen hg hcm (by rw [e2', e2, hs0]) (rest := c.toList.drop (k + 1 + ((numCells ns).drop k).length)) ?_
     rw [e3', hout, e3]
     have a1 : arr.toList.take k = numCells (ns.take k) := by
      rw [hp, List.take_append_of_le_length (by omega), List.take_of_length_le (by omega)]
     rw [a1, List.take_append_of_le_length (by rw [a2]; omega), List.take_of_length_le (by rw [a2]; omega), drop_cells]
    ·have f1 : Far (fun b => b = w.heap.size) W (W.drew.setCells w.heap.size k [Value.int .i64 x]).drew := (far_drewN _ W 1).trans ((far_setCells w.heap.size _ k W.drew).trans (far_drewN _ _ 1) (fun _ _ h => h)) (fun _ _ h => h)
     have f2 := f1.trans (far_setCells w.heap.size ((numCells ns).drop k) (k + 1) _) (fun _ _ h => h)
     exact (hfa.trans f2 (fun b hb h => by omega)).mono (fun _ _ h => h.elim)
end Go.Proofs.YtamafdcnbcoegaaGreat
namespace Go.Proofs.YtamafdcnbcoegaaGreat
open Go.RowKit
theorem delete_any {w : World} {v : Value} {ns : List Nat} (h : NumsAt w v ns) (i j : Nat) (hij : i ≤ j) (hj : j ≤ ns.length) :
  Calls Tryz.prog 221 #[v, .int .i64 i, .int .i64 j] w fun e w' => ∃ v', e = .returned v' ∧ NumsAt w' v' (ns.take i ++ ns.drop j) ∧
   Far (fun b => v.ownBlock = some b) w w' ∧ v'.ownBlock = v.ownBlock := by
 rcases h.cases with ⟨rfl, rfl⟩ | ⟨g, cap, cur, rfl, hh, hn, hc, hz, ht⟩
 ·obtain rfl : j = 0 := by simpa using hj
  obtain rfl : i = 0 := by omega
  refine (Tryz.slices_Delete_int_empty none 0 w).mono ?_
  rintro e w' ⟨rfl, rfl⟩
  exact ⟨_, rfl, numsAt_nil _, Far.refl _ _, rfl⟩
 ·refine (Tryz.slices_Delete_int_cells g 0 ns.length cap i j (ns.map Int.ofNat) w (by simp) hn (by unfold maxLen at hc; omega) hij hj (fun k hk => ?_) (fun k _ => by simp [World.frozen?, hh])).mono ?_
  ·have hk' : k < ns.length := by simpa using hk
   rw [Nat.zero_add, World.ownsRow.cellAt h k (by omega), nums_get hk']
   simp [List.getD_eq_getElem?_getD, hk']
  ·rintro e w' ⟨rfl, q, rfl⟩
   have hlist : (((ns.map Int.ofNat).take ns.length).take i ++ ((ns.map Int.ofNat).take ns.length).drop j ++ List.replicate (j - i) 0).map (Value.int .i64) = numCells (ns.take i ++ ns.drop j) ++ List.replicate (j - i) (.int .i64 0) := by
    have e0 : (ns.map Int.ofNat).take ns.length = ns.map Int.ofNat := List.take_of_length_le (by simp)
    rw [e0]
    simp only [List.map_append, List.map_replicate, numCells, ← List.map_take, ← List.map_drop, List.map_map]
    rfl
   rw [hlist]
   have hll : (numCells (ns.take i ++ ns.drop j) ++ List.replicate (j - i) (Value.int .i64 0)).length = ns.length := by
    simp [numCells]; omega
   obtain ⟨c, e1, e2, e3⟩ := setCells_blk (numCells (ns.take i ++ ns.drop j) ++ List.replicate (j - i) (.int .i64 0)) 0 (w.drewN q) cur hh (by rw [hll, hz]; omega)
   refine ⟨_, rfl, ?_, ?_, rfl⟩
   ·refine numsAt_mk' e1 (by simp; omega) (by omega) hc (by rw [e2, hz]) (rest := List.replicate (j - i) (.int .i64 0) ++ cur.toList.drop (0 + (numCells (ns.take i ++ ns.drop j) ++ List.replicate (j - i) (Value.int .i64 0)).length)) ?_
    rw [e3]
    simp
   ·exact ((far_drewN (fun k => k = g) w q).trans (far_setCells g _ _ _) (fun _ _ h => h)).mono (fun b _ hb => by rw [hb]; rfl)
end Go.Proofs.YtamafdcnbcoegaaGreat
namespace Go.Proofs.YtamafdcnbcoegaaGreat
open Go.RowKit
def look : List (Nat × Value) → Int → Option Value
 | [], _ => none
 | x :: r, k => if k = (x.1 : Int) then some x.2 else look r k
theorem look_cons (x : Nat × Value) (r : List (Nat × Value)) (k : Int) : look (x :: r) k = if k = (x.1 : Int) then some x.2 else look r k := rfl
theorem look_nil : look [] = fun _ => none := by funext k; rfl
theorem look_mem {l : List (Nat × Value)} {k : Int} {v : Value} (h : look l k = some v) : ∃ x ∈ l, (x.1 : Int) = k ∧ x.2 = v := by
 induction l with
 | nil => cases h
 | cons x r ih =>
  unfold look at h
  split at h
  ·rename_i hk
   exact ⟨x, .head _, hk.symm, Option.some.inj h⟩
  ·obtain ⟨y, hy, e⟩ := ih h
   exact ⟨y, .tail _ hy, e⟩
theorem look_isSome (l : List (Nat × Value)) (n : Nat) : (look l n).isSome = (l.map (·.1)).contains n := by
 induction l with
 | nil => rfl
 | cons x r ih =>
  unfold look
  rw [List.map_cons, List.contains_cons]
  by_cases h : n = x.1
  ·subst h; simp
  ·rw [if_neg (by omega), ih]
   simp [h]
def putL : List (Nat × Value) → Nat → Value → List (Nat × Value)
 | [], n, v => [(n, v)]
 | x :: r, n, v => if n < x.1 then (n, v) :: x :: r else if n = x.1 then (n, v) :: r else x :: putL r n v
theorem look_putL (l : List (Nat × Value)) (n : Nat) (v : Value) : look (putL l n v) = putF (look l) n v := by
 funext k
 induction l with
 | nil => simp [putL, look, putF]
 | cons x r ih =>
  unfold putL
  by_cases h1 : n < x.1
  ·rw [if_pos h1]
   show (if k = (n : Int) then some v else look (x :: r) k) = _
   rfl
  ·rw [if_neg h1]
   by_cases h2 : n = x.1
   ·rw [if_pos h2]
    show (if k = (n : Int) then some v else look r k) = _
    unfold putF
    rw [look_cons]
    by_cases h3 : k = (n : Int)
    ·rw [if_pos h3, if_pos h3]
    ·rw [if_neg h3, if_neg h3, if_neg (by omega)]
   ·rw [if_neg h2]
    show (if k = (x.1 : Int) then some x.2 else look (putL r n v) k) = _
    rw [ih]
    unfold putF
    show _ = if k = (n : Int) then some v else (if k = (x.1 : Int) then some x.2 else look r k)
    by_cases h3 : k = (x.1 : Int)
    ·rw [if_pos h3, if_neg (by omega), if_pos h3]
    ·rw [if_neg h3, if_neg h3]
theorem mem_putL {l : List (Nat × Value)} {n : Nat} {v : Value} {x : Nat × Value} (h : x ∈ putL l n v) : x = (n, v) ∨ x ∈ l := by
 induction l with
 | nil => simp [putL] at h; exact .inl h
 | cons y r ih =>
  unfold putL at h
  split at h
  ·cases h with
   | head => exact .inl rfl
   | tail _ h => exact .inr h
  ·split at h
   ·cases h with
    | head => exact .inl rfl
    | tail _ h => exact .inr (.tail _ h)
   ·cases h with
    | head => exact .inr (.head _)
    | tail _ h => exact (ih h).imp id (fun h => .tail _ h)
theorem countP_zero_of {r : List Nat} {n : Nat} (h : ∀ y ∈ r, ¬ y < n) : r.countP (· < n) = 0 := by
 rw [List.countP_eq_zero]
 intro y hy
 simpa using h y hy
theorem keys_putL {l : List (Nat × Value)} {n : Nat} {v : Value} (hs : (l.map (·.1)).Pairwise (· < ·)) :
  (putL l n v).map (·.1) = if (l.map (·.1)).contains n then l.map (·.1) else (l.map (·.1)).take ((l.map (·.1)).countP (· < n)) ++ n :: (l.map (·.1)).drop ((l.map (·.1)).countP (· < n)) := by
 induction l with
 | nil => simp [putL]
 | cons x r ih =>
  rw [List.map_cons, List.pairwise_cons] at hs
  obtain ⟨h0, hs⟩ := hs
  unfold putL
  rw [List.map_cons, List.contains_cons, List.countP_cons]
  by_cases h1 : n < x.1
  ·have hz : (r.map (·.1)).countP (· < n) = 0 := countP_zero_of (fun y hy => by have := h0 y hy; omega)
   have hn : (r.map (·.1)).contains n = false := by
    cases h : (r.map (·.1)).contains n with
    | false => rfl
    | true => have := h0 n (by simpa using h); omega
   have hne : (n == x.1) = false := by simp; omega
   rw [if_pos h1, hz, hn, hne, if_neg (by simp)]
   have : decide (x.1 < n) = false := by simp; omega
   simp [this]
  ·rw [if_neg h1]
   by_cases h2 : n = x.1
   ·have hne : (n == x.1) = true := by simp [h2]
    rw [if_pos h2, hne, if_pos (by simp)]
    simp [h2]
   ·have hlt : x.1 < n := by omega
    have hne : (n == x.1) = false := by simp [h2]
    rw [if_neg h2, hne, List.map_cons, ih hs]
    simp only [Bool.false_or]
    by_cases hc : (r.map (·.1)).contains n = true
    ·rw [if_pos hc, if_pos hc]
    ·rw [if_neg hc, if_neg hc]
     simp [hlt]
theorem sorted_putL {l : List (Nat × Value)} {n : Nat} {v : Value} (hs : (l.map (·.1)).Pairwise (· < ·)) : ((putL l n v).map (·.1)).Pairwise (· < ·) := by
 induction l with
 | nil => simp [putL]
 | cons x r ih =>
  have hs0 := hs
  rw [List.map_cons, List.pairwise_cons] at hs
  obtain ⟨h0, hs⟩ := hs
  unfold putL
  by_cases h1 : n < x.1
  ·rw [if_pos h1, List.map_cons, List.pairwise_cons]
   refine ⟨fun y hy => ?_, hs0⟩
   rw [List.map_cons] at hy
   cases hy with
   | head => exact h1
   | tail _ hy => exact Nat.lt_trans h1 (h0 y hy)
  ·rw [if_neg h1]
   by_cases h2 : n = x.1
   ·rw [if_pos h2, List.map_cons, List.pairwise_cons]
    exact ⟨fun y hy => by rw [h2]; exact h0 y hy, hs⟩
   ·rw [if_neg h2, List.map_cons, List.pairwise_cons]
    refine ⟨fun y hy => ?_, ih hs⟩
    obtain ⟨z, hz, rfl⟩ := List.mem_map.1 hy
    rcases mem_putL hz with rfl | hz
    ·show x.1 < n; omega
    ·exact h0 _ (List.mem_map.2 ⟨z, hz, rfl⟩)
theorem length_putL_le (l : List (Nat × Value)) (n : Nat) (v : Value) : (putL l n v).length ≤ l.length + 1 := by
 induction l with
 | nil => simp [putL]
 | cons x r ih =>
  unfold putL
  split
  ·simp
  ·split
   ·simp
   ·simp only [List.length_cons]; omega
structure ShelfIs (w : World) (nv mv : Value) (l : List (Nat × Value)) : Prop where
 nums : NumsAt w nv (l.map (·.1))
 map : MapV w mv (look l)
 sorted : (l.map (·.1)).Pairwise (· < ·)
 len : l.length ≤ 1000
theorem ShelfIs.keep {w w' : World} {nv mv : Value} {l : List (Nat × Value)} (h : ShelfIs w nv mv l) (hn : ∀ g, nv.ownBlock = some g → w'.heap[g]? = w.heap[g]?) (hm : ∀ g, mapBlock mv = some g → w'.heap[g]? = w.heap[g]?) : ShelfIs w' nv mv l :=
 ⟨h.nums.keep hn, h.map.keep hm, h.sorted, h.len⟩
def ShU (nv mv : Value) (k : Nat) : Prop := nv.ownBlock = some k ∨ mapBlock mv = some k
theorem ShelfIs.far {E : Nat → Prop} {w w' : World} {nv mv : Value} {l : List (Nat × Value)} (h : ShelfIs w nv mv l) (hf : Far E w w') (hE : ∀ k, ShU nv mv k → ¬ E k) : ShelfIs w' nv mv l :=
 h.keep (fun g hg => hf.rest g (World.ownsRow.lt h.nums g hg).2 (hE g (.inl hg))) (fun g hg => hf.rest g (h.map.lt g hg) (hE g (.inr hg)))
theorem ShelfIs.lt {w : World} {nv mv : Value} {l : List (Nat × Value)} (h : ShelfIs w nv mv l) : ∀ k, ShU nv mv k → k < w.heap.size := by
 rintro k (hk | hk)
 ·exact (World.ownsRow.lt h.nums k hk).2
 ·exact h.map.lt k hk
theorem shelfIs_nil (w : World) : ShelfIs w (.slice none 0 0) (.map none) [] := ⟨numsAt_nil w, .inl ⟨rfl, look_nil⟩, by simp, by simp⟩
theorem ShelfIs.ne {w : World} {nv mv : Value} {l : List (Nat × Value)} (h : ShelfIs w nv mv l) {p : Nat} {c : Array Value} {t : TypeId} {fr : Nat × Nat} (hp : w.heap[p]? = some (.cells c t fr)) (ht : t ≠ 3) : ¬ ShU nv mv p := by
 rintro (hk | hk)
 ·exact (RowO.of_own h.nums).ne hp (fun e => ht e.symm) hk
 ·rcases h.map with ⟨rfl, _⟩ | ⟨b, rfl, hm⟩
  ·cases hk
  ·cases hk; exact hm.not_cells hp
end Go.Proofs.YtamafdcnbcoegaaGreat
namespace Go.Proofs.YtamafdcnbcoegaaGreat
open Go.RowKit
structure ShAt (w : World) (p o : Nat) (t : TypeId) (arr : Array Value) (nv mv : Value) (l : List (Nat × Value)) : Prop where
 blk : w.heap[p]? = some (.cells arr t (0, 0))
 c0 : arr[o]? = some nv
 c1 : arr[o + 1]? = some mv
 sh : ShelfIs w nv mv l
 ty : t ≠ 3
structure ShStep (w x : World) (p o : Nat) (t : TypeId) (arr : Array Value) (nv mv : Value) (l' : List (Nat × Value)) : Prop where
 out : ∃ nv' mv', ShAt x p o t ((arr.setIfInBounds o nv').setIfInBounds (o + 1) mv') nv' mv' l' ∧ Loc w nv nv' ∧ (mapBlock mv' = mapBlock mv ∨ ∃ g, mapBlock mv' = some g ∧ w.heap.size ≤ g)
 far : Far (fun k => k = p ∨ ShU nv mv k) w x
theorem set_same {arr : Array Value} {i : Nat} {v : Value} (h : arr[i]? = some v) : arr.setIfInBounds i v = arr := by
 apply Array.ext'
 rw [Array.toList_setIfInBounds]
 apply List.ext_getElem?
 intro j
 rw [List.getElem?_set]
 by_cases hij : i = j
 ·subst hij
  have hlt : i < arr.size := (Array.getElem?_eq_some_iff.1 h).1
  rw [if_pos rfl, Array.length_toList, if_pos hlt]
  simpa using h.symm
 ·simp [hij]
theorem set_comm {arr : Array Value} {i j : Nat} (u v : Value) (h : i ≠ j) : (arr.setIfInBounds i u).setIfInBounds j v = (arr.setIfInBounds j v).setIfInBounds i u := by
 apply Array.ext'
 simp only [Array.toList_setIfInBounds]
 exact List.set_comm _ _ h
theorem NumsAt.notMap {w : World} {v : Value} {ns : List Nat} {b : Nat} {f : Int → Option Value} (N : NumsAt w v ns) (M : MapAt w b f) : v.ownBlock ≠ some b := by
 intro h
 rcases N.cases with ⟨rfl, _⟩ | ⟨g, cap, cur, rfl, hh, _⟩
 ·cases h
 ·cases h
  exact M.not_cells hh
theorem loc_less {w x : World} {a b : Value} (h : Loc x a b) (hs : w.heap.size ≤ x.heap.size) : Loc w a b := by
 rcases h with h | h | ⟨g, h, hg⟩
 ·exact .inl h
 ·exact .inr (.inl h)
 ·exact .inr (.inr ⟨g, h, Nat.le_trans hs hg⟩)
theorem put_end {w z W : World} {p o : Nat} {t : TypeId} {arr : Array Value} {nv nv' mv : Value} {l : List (Nat × Value)} {n mb : Nat} {v : Value} (h0 : o < arr.size) (h1 : o + 1 < arr.size) (hb : z.heap[p]? = some (.cells ((arr.setIfInBounds o nv').setIfInBounds (o + 1) (.map (some mb))) t (0, 0))) (ht : t ≠ 3)
  (N : NumsAt z nv' ((putL l n v).map (·.1))) (M : MapAt z mb (look l)) (hf : Far (fun k => k = p ∨ nv.ownBlock = some k) w z) (hl : Loc w nv nv') (hloc : mapBlock mv = some mb ∨ w.heap.size ≤ mb)
  (hM : MapAt W mb (putF (look l) n v)) (hW : Far (fun k => k = mb) z W) (hs : (l.map (·.1)).Pairwise (· < ·)) (hlen : l.length < 1000) : ShStep w W p o t arr nv mv (putL l n v) := by
 have hpm : ¬ p = mb := fun e => M.not_cells (by rw [← e]; exact hb)
 refine ⟨⟨nv', .map (some mb), ⟨hW.blk hb hpm, ?_, ?_, ⟨N.keep (fun g hg => hW.rest g (World.ownsRow.lt N g hg).2 (fun e => N.notMap M (by rw [hg, e]))), .inr ⟨mb, rfl, by rw [look_putL]; exact hM⟩, sorted_putL hs, by have := length_putL_le l n v; omega⟩, ht⟩, hl, ?_⟩, ?_⟩
 ·rw [Array.getElem?_setIfInBounds_ne (by omega)]; simp [h0]
 ·simp [h1]
 ·rcases hloc with h | h
  ·exact .inl h.symm
  ·exact .inr ⟨mb, rfl, h⟩
 ·refine (hf.mono (fun k _ h => h.elim .inl (fun h => .inr (.inl h)))).trans hW (fun k hk e => ?_)
  rcases hloc with h | h
  ·exact .inr (.inr (by rw [h, e]))
  ·omega
end Go.Proofs.YtamafdcnbcoegaaGreat
namespace Go.Proofs.YtamafdcnbcoegaaGreat
open Go.RowKit
def OneW (B : Nat) (cs : List Value) (v : Value) (w : World) : Prop := ∃ g, v = .slice (some ⟨g, 0, none⟩) 1 1 ∧ B ≤ g ∧ w.heap[g]? = some (.cells cs.toArray 261 (0, 0))
theorem stable_oneW (B : Nat) (cs : List Value) : Stable (OneW B cs) := fun _ _ _ h hb => by
 obtain ⟨g, e, h1, h2⟩ := h
 exact ⟨g, e, h1, (hb.block g (lt_of_block h2)).trans h2⟩
theorem stableF_oneW {B : Nat} {cs : List Value} {E : Nat → Prop} (hE : ∀ k, E k → k < B) : StableF E (OneW B cs) := fun _ _ _ h hF => by
 obtain ⟨g, e, h1, h2⟩ := h
 exact ⟨g, e, h1, hF.blk h2 (fun e => by have := hE _ e; omega)⟩
def RowW (w0 : World) (uv : Value) (cs : List Value) (v : Value) (w : World) : Prop := RowO w 261 65 v 1 cs ∧ Loc w0 uv v ∧ w0.heap.size ≤ w.heap.size
theorem stable_rowW (w0 : World) (uv : Value) (cs : List Value) : Stable (RowW w0 uv cs) := fun _ _ _ h hb =>
 ⟨h.1.keep (fun g hg => hb.block g (h.1.lt g hg)), h.2.1, Nat.le_trans h.2.2 hb.size⟩
theorem stableF_rowW {w0 : World} {uv : Value} {cs : List Value} {E : Nat → Prop} (hE : ∀ k, E k → k < w0.heap.size ∧ uv.ownBlock ≠ some k) : StableF E (RowW w0 uv cs) := fun _ _ _ h hF =>
 ⟨h.1.far hF (fun g hg e => by
  obtain ⟨h1, h2⟩ := hE g e
  rcases h.2.1 with h3 | h3 | ⟨k, h3, h4⟩
  ·rw [h3] at hg; cases hg
  ·rw [h3] at hg; exact h2 hg
  ·rw [h3] at hg; cases hg; omega), h.2.1, Nat.le_trans h.2.2 hF.size⟩
theorem info_write : (Tryz.prog.info? 261).map (fun i => (i.zero, i.size, i.bytes)) = some (some (.agg (.int .i64 0 :: bv zeros).toArray), 65, 72) := by kernel_rfl
def PutW (w0 : World) (p : Nat) (lv uv : Value) (n : Int) (cs : List Value) (w : World) : Prop :=
 ∃ v, w.heap[p]? = some (.cells #[lv, v, .int .i64 n, .bool false] 252 (0, 0)) ∧ RowW w0 uv cs v w
theorem stable_putW (w0 : World) (p : Nat) (lv uv : Value) (n : Int) (cs : List Value) : Stable (fun _ w => PutW w0 p lv uv n cs w) := fun _ _ _ h hb => by
 obtain ⟨v, h1, h2⟩ := h
 exact ⟨v, (hb.block p (lt_of_block h1)).trans h1, stable_rowW w0 uv cs _ _ _ h2 hb⟩
theorem oper_build_write {o : Oper} {a : Act} {w : World} {K : Act → World → Prop} {Q : Exit → Act → World → Prop} (x y : Operand) (ho : o.op = .build 261 #[(0, x), (1, y)]) (k : Int) (S : List UInt8) (hS : S.length = 64)
  (hx : a.eval x = .int .i64 k) (hy : a.eval y = .agg (bv S).toArray) (h : K (a.put o.dst (.agg (.int .i64 k :: bv S).toArray)) w) : o.wp Tryz.prog a w K Q := by
 have hb := built_write k S hS
 refine wp_build 261 #[(0, x), (1, y)] ho ?_ ?_
 ·simp only [List.map_toArray, List.map_cons, List.map_nil, hx, hy, hb]
  rfl
 ·simp only [List.map_toArray, List.map_cons, List.map_nil, hx, hy, hb]
  exact h
theorem run_bs_write (w : World) (cs : List Value) (hc : cs.length = 65) : (Instr.buildSlice 250 1 #[(0, .agg cs.toArray)]).run Tryz.prog w = .ok (.slice (some ⟨w.heap.size, 0, none⟩) 1 1) (w.alloc (.cells cs.toArray 261)) := by
 obtain ⟨i0, hi, hz0, hz1, hz2⟩ := info_parts2 info_write
 have hf : ∀ C : Array Value, C.size = 65 → Instr.fill (fun i => some (i * 65, 65)) C [(0, .agg cs.toArray)] = some cs.toArray := by
  intro C hC
  have e := fold_set 0 cs 0 C (by omega)
  simp only [Instr.fill, Value.cells]
  simp [hc, hC]
  simp at e
  rw [e]
  simp [hc, hC]
 simp [Instr.buildSlice, run_underlying Tryz.underlying250, sizeOf, typeInfo, hi, hz1, zeroValue, hz0]
 rw [hf _ (by simp)]
 simp [newRow]
theorem oper_bs_write {o : Oper} {a : Act} {w : World} {K : Act → World → Prop} {Q : Exit → Act → World → Prop} (x : Operand) (ho : o.op = .buildSlice 250 1 #[(0, x)]) (cs : List Value) (hc : cs.length = 65)
  (hx : a.eval x = .agg cs.toArray) (h : K (a.put o.dst (.slice (some ⟨w.heap.size, 0, none⟩) 1 1)) (w.alloc (.cells cs.toArray 261))) : o.wp Tryz.prog a w K Q := by
 unfold Oper.wp execOp
 simp only [ho, List.map_toArray, List.map_cons, List.map_nil, hx, Sem.run_bind, run_bs_write w cs hc, Result.andThen_ok]
 exact h
set_option maxRecDepth 100000 in
set_option maxHeartbeats 4000000 in
theorem diskWrite_ok (w : World) (p : Nat) (lv uv : Value) (n k : Nat) (S : List UInt8) (hS : S.length = 64) (hn : n ≠ 1) (hnm : n ≤ 9223372036854775807)
  (hb : w.heap[p]? = some (.cells #[lv, uv, .int .i64 n, .bool false] 252 (0, 0))) (hr : RowO w 261 65 uv 0 []) :
  Calls Tryz.prog 182 #[.pointer (some ⟨p, 0, none⟩), .int .i64 k, .agg (bv S).toArray] w fun r w' =>
   r = .returned (.int .i64 0) ∧ PutW w p lv uv (n - 1 : Nat) (.int .i64 k :: bv S) w' ∧ Far (fun j => j = p ∨ uv.ownBlock = some j) w w' := by
 have hpl := lt_of_block hb
 have hup := hr.ne hb (by decide)
 have hb2 : ∀ ob, (w.alloc ob).heap[p]? = some (.cells #[lv, uv, .int .i64 n, .bool false] 252 (0, 0)) := fun ob => (hao _ _ hpl).trans hb
 have c3 : ∀ ob, (w.alloc ob).cell? ⟨p, 3, none⟩ = some (.bool false) := fun ob => blk_cell (i := 3) (hb2 ob)
 have c2 : ∀ ob, (w.alloc ob).cell? ⟨p, 2, none⟩ = some (.int .i64 n) := fun ob => blk_cell (i := 2) (hb2 ob)
 have f2 : ∀ ob, (w.alloc ob).frozen? ⟨p, 2, none⟩ = false := fun ob => blk_free (i := 2) (hb2 ob)
 have hne : ((n : Int) == 1) = false := by simp; omega
 have hw : IntKind.i64.wrap ((n : Int) - 1) = (n : Int) - 1 := by rw [IntKind.wrap_i64]; omega
 have HB := hide hb
 have HR := hide hr
 clear hb hb2 hr
 go_enter Tryz.func182, Tryz.ntmps182
 go_upto_region 7 with fail
 obtain ⟨n', hn'⟩ : ∃ n', n' = n - 1 := ⟨_, rfl⟩
 refine wp_world (fun x => x.heap[p]? = some (.cells #[lv, uv, .int .i64 n', .bool false] 252 (0, 0)) ∧ x.heap[w.heap.size]? = some (.cells (bv S).toArray 207 (0, 0)) ∧ RowO x 261 65 uv 0 [] ∧ Far (fun j => j = p) w x ∧ w.heap.size < x.heap.size) ?_ ?_
 ·have hv : max 0 ((n : Int) - 1) = ((n' : Nat) : Int) := by omega
  rw [hv]
  refine ⟨?_, ?_, ?_, ?_, ?_⟩
  ·rw [hao _ _ (by rw [World.size_setCell]; exact hpl)]
   have := blk_set (j := 2) (v := .int .i64 n') (unhide HB)
   simpa using this
  ·have := heap_alloc_new (w.setCell ⟨p, 2, none⟩ (.int .i64 n')) (.cells (bv S).toArray 207)
   rw [World.size_setCell] at this
   exact this
  ·exact (unhide HR).far ((far_set w p 2 (.int .i64 n')).trans (far_below ((Below.refl _ _).alloc (Nat.le_refl _) _)) (fun _ _ h => h)) (fun g hg e => hup (by rw [hg, e]))
  ·exact (far_set w p 2 (.int .i64 n')).trans (far_below ((Below.refl _ _).alloc (Nat.le_refl _) _)) (fun _ _ h => h)
  ·simp
 rintro x ⟨h0, h1, h2, h3, hz⟩
 have hpx := lt_of_block h0
 have huv := fun g hg => h2.lt g hg
 have hcs : (Value.int .i64 k :: bv S).length = 65 := by simp [bv_length, hS]
 obtain ⟨cs, hcsd⟩ : ∃ cs, cs = Value.int .i64 k :: bv S := ⟨_, rfl⟩
 rw [← hcsd] at hcs
 have HCS := hide hcsd
 have h1c : ∀ u ∈ cs, u.oneCell' = true := by
  rw [hcsd]
  intro u hu
  cases hu with
  | head => rfl
  | tail _ hu => exact bv_oneCell S u hu
 clear hcsd
 have H0 := hide h0
 have H1 := hide h1
 have H2 := hide h2
 have H3 := hide h3
 clear h0 h1 h2 h3 c3 c2 f2 HB HR
 refine wp_region_foot (by kernel_rfl)
  [fun v _ => v = .pointer (some ⟨p, 0, none⟩), fun v _ => v = .pointer (some ⟨p, 0, none⟩), fun v _ => v = .pointer (some ⟨p, 0, none⟩), fun v _ => v = .pointer (some ⟨p, 1, none⟩), fun v _ => v = uv, fun v _ => v = .int .i64 k, fun v _ => v = .agg (bv S).toArray, fun v _ => v = .agg cs.toArray, OneW x.heap.size cs, RowW x uv cs, fun v _ => v = .pointer (some ⟨p, 0, none⟩), fun v _ => v = .pointer (some ⟨p, 1, none⟩), fun _ w => PutW x p lv uv n' cs w]
  [[(0, none)], [(0, none)], [(31, some 1)], [(32, some 2)], [(33, some 3)], [(1, none)], [(5, none)], [(35, some 5), (36, some 6)], [(37, some 7)], [(34, some 4), (38, some 8)], [(30, some 0)], [(40, some 10)], [(41, some 11), (39, some 9)]] [some 30, some 31, some 32, some 33, some 34, some 35, some 36, some 37, some 38, some 39, some 40, some 41, none] [false, false, false, false, false, false, false, false, false, false, false, false, false, false, false, false, false, false, false, false, false, false, false, false, false, false, false, false, false, false, true, true, true, true, true, true, true, true, true, true, true, true]
  [(9, fun j => uv.ownBlock = some j), (12, fun j => j = p)]
  (by kernel_rfl) (by kernel_rfl) (by kernel_rfl) (by kernel_rfl) (by kernel_rfl) ?_ ?_ ?_ ?_
 ·repeat' (first | exact stable_eq _ | exact stable_oneW _ _ | exact stable_rowW _ _ _ | exact stable_putW _ _ _ _ _ _ | exact trivial | apply And.intro)
 ·repeat' (first | exact trivial | exact .inl rfl | exact .inr (.inr (stableF_eq _ _)) | exact .inr (.inr (stableF_oneW (fun g hg => huv g hg))) | exact .inr (.inr (stableF_oneW (fun g (hg : g = p) => by omega))) | exact .inr (.inr (stableF_rowW (fun g (hg : g = p) => ⟨by omega, by rw [hg]; exact hup⟩))) | exact .inr (.inl (by kernel_rfl)) | apply And.intro)
 ·refine ⟨?_, ?_, ?_, ?_, ?_, ?_, ?_, ?_, ?_, ?_, ?_, ?_, ?_, trivial⟩
  all_goals
   intro a z hb hf
   have hzz := hb.size
   have HBZ := hide hb
   clear hb
   simp only [PlanFacts, List.getD_cons_zero, List.getD_cons_succ, Array.getD_eq_getD_getElem?] at hf
   try simp at hf
  ·go_simp
   exact ⟨_, rfl, Far.refl _ _, rfl⟩
  ·go_simp
   exact ⟨_, rfl, Far.refl _ _, rfl⟩
  ·go_simp
   exact ⟨_, rfl, Far.refl _ _, rfl⟩
  ·go_simp
   exact ⟨_, rfl, Far.refl _ _, rfl⟩
  ·have d1 : z.cell? ⟨p, 1, none⟩ = some uv := blk_cell (i := 1) ((unhide HBZ).blk (unhide H0) (by
    rintro ⟨q, hq, g1, g2, g3⟩
    simp at hq
    rcases hq with rfl | rfl
    ·exact hup g3
    ·exact absurd (show depB _ 12 4 = false from g2) (by decide +kernel)))
   go_simp
   exact ⟨_, rfl, Far.refl _ _, rfl⟩
  ·go_simp
   exact ⟨_, rfl, Far.refl _ _, rfl⟩
  ·have d1 := (unhide HBZ).blk (unhide H1) (by
    rintro ⟨q, hq, g1, g2, g3⟩
    simp at hq
    rcases hq with rfl | rfl
    ·have : ¬ uv.ownBlock = some w.heap.size := fun e => ((unhide H2).ne (unhide H1) (by decide)) e
     exact this g3
    ·have g3 : w.heap.size = p := g3
     omega)
   rw [if_pos (by rfl)]
   refine oper_load_sec (.tmp 5) rfl w.heap.size (by simp [Act.eval, hf]) 207 S hS d1 ?_
   exact ⟨_, rfl, Far.refl _ _, rfl⟩
  ·rw [if_pos (by rfl)]
   refine oper_build_write (.tmp 35) (.tmp 36) rfl k S hS (by simp [Act.eval, hf]) (by simp [Act.eval, hf]) ?_
   exact ⟨_, rfl, Far.refl _ _, by rw [unhide HCS]; rfl⟩
  ·rw [if_pos (by rfl)]
   refine oper_bs_write (.tmp 37) rfl cs hcs (by simp [Act.eval, hf]) ?_
   exact ⟨_, rfl, far_below ((Below.refl _ _).alloc (Nat.le_refl _) _), _, rfl, hzz, heap_alloc_new z _⟩
  ·have hoz := (unhide H2).far (unhide HBZ) (by
    rintro g hg ⟨q, hq, g1, g2, g3⟩
    simp at hq
    rcases hq with rfl | rfl
    ·exact g1 rfl
    ·have g3 : g = p := g3
     exact hup (by rw [hg, g3]))
   obtain ⟨g, hg, hgB, hgh⟩ := hf.2
   refine step_app_o rfl (.tmp 34) (.tmp 38) 250 rfl 261 _ 65 72 Tryz.underlying250 info_write (by simp [Value.cells, bv_length, length_zeros]) uv 0 [] hoz (by simp [Act.eval, hf]) ⟨g, 0, none⟩ 1 1 cs (by simp [Act.eval, hg]) (by omega) ?_ h1c (by omega) (by omega) (by omega) ?_
   ·intro j u hj
    rw [add_mk, blk_cell hgh, List.getElem?_toArray, Nat.zero_add]
    exact hj
   ·intro v' w' g1 g2
    exact ⟨v', rfl, footOf_of (.head _) (far_grown g2.grown), g1, loc_app hzz g2, Nat.le_trans hzz g2.grown.size⟩
  ·go_simp
   exact ⟨_, rfl, Far.refl _ _, rfl⟩
  ·go_simp
   exact ⟨_, rfl, Far.refl _ _, rfl⟩
  ·have d0 := (unhide HBZ).blk (unhide H0) (by
    rintro ⟨q, hq, g1, g2, g3⟩
    simp at hq
    rcases hq with rfl | rfl
    ·exact hup g3
    ·exact g1 rfl)
   have f1 : z.frozen? ⟨p, 1, none⟩ = false := blk_free (i := 1) d0
   have d1 : z.cell? ⟨p, 1, none⟩ = some uv := blk_cell (i := 1) d0
   obtain ⟨hv41, hrw⟩ := hf
   obtain ⟨ad, cap, hv39, _⟩ := hrw.1.shape
   have HD0 := hide d0
   have HRW := hide hrw
   clear hrw d0
   rw [hv39] at HRW
   go_simp
   refine ⟨footOf_of (.tail _ (.head _)) (far_set z p 1 _), .slice ad 1 cap, ?_, ?_⟩
   ·have := blk_set (j := 1) (v := .slice ad 1 cap) (unhide HD0)
    rw [← hn']
    simpa using this
   ·have hR := unhide HRW
    have hs2 := hR.2.2
    refine stableF_rowW (E := fun j => j = p) (fun g (hg : g = p) => ⟨by omega, by rw [hg]; exact hup⟩) _ _ _ hR (far_set z p 1 _)
 ·intro f z hF hwd
  have hput := hwd.2.2.2.2.2.2.2.2.2.2.2.2.1
  have HP := hide hput
  have HF := hide hF
  clear hput hwd hF
  simp only [mergeT]
  generalize f 30 = x30
  generalize f 31 = x31
  generalize f 32 = x32
  generalize f 33 = x33
  generalize f 34 = x34
  generalize f 35 = x35
  generalize f 36 = x36
  generalize f 37 = x37
  generalize f 38 = x38
  generalize f 39 = x39
  generalize f 40 = x40
  generalize f 41 = x41
  go_simp
  go_wp2
  go_ret
  refine ⟨rfl, ?_, ?_⟩
  ·rw [← hn', ← unhide HCS]
   obtain ⟨v, g1, g2, g3, g4⟩ := unhide HP
   exact ⟨v, g1, g2, loc_less g3 (by omega), by omega⟩
  ·refine ((unhide H3).mono (fun j _ h => .inl h)).trans (unhide HF) (fun j _ h => ?_)
   obtain ⟨q, hq, h⟩ := h
   simp at hq
   rcases hq with rfl | rfl
   ·exact .inr h
   ·exact .inl h
end Go.Proofs.YtamafdcnbcoegaaGreat
namespace Go.Proofs.YtamafdcnbcoegaaGreat
open Go.RowKit
def recA (b : ByteArray) (pl : Nat) : Value := .agg #[.string b, .int .i64 pl]
def zeroA : Value := .agg #[.string ⟨#[]⟩, .int .i64 0]
theorem zero_A (w : World) : (zeroValue 158).run Tryz.prog w = .ok zeroA w := Tryz.zeroValue158 w
def AreA (l : List (Nat × Value)) : Prop := ∀ x ∈ l, ∃ b pl, x.2 = recA b pl
theorem areA_look {l : List (Nat × Value)} (h : AreA l) (k : Int) : (∃ b pl, look l k = some (recA b pl)) ∨ look l k = none := by
 cases hv : look l k with
 | none => exact .inr rfl
 | some v =>
  obtain ⟨x, hx, _, rfl⟩ := look_mem hv
  obtain ⟨b, pl, e⟩ := h x hx
  exact .inl ⟨b, pl, by rw [e]⟩
set_option maxHeartbeats 400000 in
theorem hasA_any {w : World} {p o : Nat} {arr : Array Value} {t : TypeId} {nv mv : Value} {l : List (Nat × Value)} (hb : w.heap[p]? = some (.cells arr t (0, 0))) (h1 : arr[o + 1]? = some mv) (S : ShelfIs w nv mv l) (A : AreA l) (n : Int) :
  Calls Tryz.prog 150 #[.pointer (some ⟨p, o, none⟩), .int .i64 n] w fun e w' => e = .returned (.bool (look l n).isSome) ∧ Below w.heap.size w w' := by
 have c1 : w.cell? ⟨p, o + 1, none⟩ = some mv := (blk_cell hb).trans h1
 have hrun := (run_lookup_i (P := Tryz.prog) (w := w) (t := 137) Tryz.underlying137 Tryz.underlying3 (zero_A w) S.map n).1
 clear S hb h1
 rcases areA_look A n with ⟨b, pl, h⟩ | h
 all_goals
  rw [h] at hrun ⊢
  simp only [Option.getD_some, Option.getD_none, Option.isSome_some, Option.isSome_none, recA, zeroA] at hrun ⊢
  clear h A
  go_enter Tryz.func150, Tryz.ntmps150
  go_wp2
  go_ret
  refine ⟨rfl, ?_⟩
  exact (Below.refl _ _).alloc (Nat.le_refl _) _
set_option maxRecDepth 100000 in
set_option maxHeartbeats 1000000 in
theorem putA_any {w : World} {p o : Nat} {t : TypeId} {arr : Array Value} {nv mv : Value} {l : List (Nat × Value)} (S : ShAt w p o t arr nv mv l) (hl : l.length < 1000) (n : Nat) (b : ByteArray) (pl : Nat) :
  Calls Tryz.prog 90 #[.pointer (some ⟨p, o, none⟩), .int .i64 n, recA b pl] w fun e w' => e = .returned (.tuple #[]) ∧ ShStep w w' p o t arr nv mv (putL l n (recA b pl)) := by
 obtain ⟨hbW, h0, h1, S, ht⟩ := S
 obtain ⟨mv0, hmv0⟩ : ∃ m, m = mv := ⟨_, rfl⟩
 rw [← hmv0]
 have hmv0 := hide hmv0
 have c0 : w.cell? ⟨p, o, none⟩ = some nv := (blk_cell hbW).trans h0
 have c1 : w.cell? ⟨p, o + 1, none⟩ = some mv := (blk_cell hbW).trans h1
 unfold recA
 have hp := lt_of_block hbW
 go_enter Tryz.func90, Tryz.ntmps90
 go_upto_region 1 with fail
 refine wp_world (fun x => x.heap[p]? = some (.cells arr t (0, 0)) ∧ x.heap[w.heap.size]? = some (.cells #[.string b, .int .i64 pl] 158 (0, 0)) ∧ ShelfIs x nv mv l ∧ Far (fun _ => False) w x ∧ w.heap.size < x.heap.size) ?_ ?_
 ·have hf : Far (fun _ => False) w (w.alloc (.cells #[.string b, .int .i64 pl] 158)) := far_below ((Below.refl _ _).alloc (Nat.le_refl _) _)
  exact ⟨hf.blk hbW id, heap_alloc_new w _, S.far hf (fun _ _ h => h), hf, by simp⟩
 clear c0 c1 S
 rintro x ⟨hb, hbox, S, hf, hz⟩
 have c0 : x.cell? ⟨p, o, none⟩ = some nv := (blk_cell hb).trans h0
 have c1 : x.cell? ⟨p, o + 1, none⟩ = some mv := (blk_cell hb).trans h1
 have hfr : x.frozen? ⟨p, o + 1, none⟩ = false := by simp [World.frozen?, hb]
 have hmm := @run_makeMap Tryz.prog
 have eqN : ∀ y : World, (binOp .eql 137 (.map none) (.map none)).run Tryz.prog y = .ok (.bool true) y := fun y => by kernel_rfl
 have eqS : ∀ (y : World) (m : Nat), (binOp .eql 137 (.map (some m)) (.map none)).run Tryz.prog y = .ok (.bool false) y := fun y m => by kernel_rfl
 have pM : (x.alloc (.map #[] 0)).heap[p]? = some (.cells arr t (0, 0)) := (Below.heap_alloc x _ p (lt_of_block hb)).trans hb
 have cM : (x.alloc (.map #[] 0)).cell? ⟨p, o + 1, none⟩ = some mv := (blk_cell pM).trans h1
 have fM : (x.alloc (.map #[] 0)).frozen? ⟨p, o + 1, none⟩ = false := by simp [World.frozen?, pM]
 rcases S.map with ⟨rfl, hm⟩ | ⟨mb, rfl, hm⟩
 all_goals
  go_upto_region 3 with fail
  refine wp_world (fun y => ∃ mb, y.heap[p]? = some (.cells (arr.setIfInBounds (o + 1) (.map (some mb))) t (0, 0)) ∧ y.heap[w.heap.size]? = some (.cells #[.string b, .int .i64 pl] 158 (0, 0)) ∧ NumsAt y nv (l.map (·.1)) ∧ MapAt y mb (look l) ∧
   Far (fun k => k = p) w y ∧ w.heap.size < y.heap.size ∧ (mapBlock mv0 = some mb ∨ w.heap.size ≤ mb)) ?_ ?_
 ·refine ⟨x.heap.size, blk_set pM, (blk_set_ne (by omega)).trans ((Below.heap_alloc x _ _ hz).trans hbox), ?_, ?_, ?_, ?_, .inr (Nat.le_of_lt hz)⟩
  ·exact S.nums.keep (fun g hg => (blk_set_ne (fun e => S.ne hb ht (.inl (by rw [← e]; exact hg)))).trans (Below.heap_alloc x _ g (World.ownsRow.lt S.nums g hg).2))
  ·rw [hm]
   exact (mapAt_new x).keep (blk_set_ne (by have := lt_of_block hb; omega))
  ·exact ((hf.mono (fun _ _ h => h.elim)).trans (far_below ((Below.refl _ x).alloc (Nat.le_refl _) _)) (fun _ _ h => h)).trans (far_set _ p (o + 1) _) (fun _ _ h => h)
  ·simp; omega
 rotate_left
 ·refine ⟨mb, by rw [set_same h1]; exact hb, hbox, S.nums, hm, hf.mono (fun _ _ h => h.elim), hz, .inl (by rw [unhide hmv0]; rfl)⟩
 all_goals
  have hs := hide S.sorted
  clear c0 c1 pM cM fM hfr hbox S hm hb hz hmm eqN eqS hf hp
  rintro y ⟨mb', hb, hbox, N, M, hfY, hz, hloc⟩
  have h0s : o < arr.size := (Array.getElem?_eq_some_iff.1 h0).1
  have h1s : o + 1 < arr.size := (Array.getElem?_eq_some_iff.1 h1).1
  have a0 : (arr.setIfInBounds (o + 1) (.map (some mb')))[o]? = some nv := by rw [Array.getElem?_setIfInBounds_ne (by omega)]; exact h0
  have a1 : (arr.setIfInBounds (o + 1) (.map (some mb')))[o + 1]? = some (.map (some mb')) := by simp [h1s]
  have c0 : y.cell? ⟨p, o, none⟩ = some nv := (blk_cell hb).trans a0
  have hk := keys_putL (v := recA b pl) (n := n) (unhide hs)
  have hsr := search_any N (unhide hs) (by simp; omega) n
  have hcl : (l.map (·.1)).countP (· < n) ≤ (l.map (·.1)).length := List.countP_le_length
  have hnl : (l.map (·.1)).length < 1000 := by simpa using hl
  generalize (l.map (·.1)).countP (· < n) = k at hk hsr hcl
  generalize (l.map (·.1)).contains n = c at hk hsr
  generalize l.map (·.1) = ns at hk hsr hcl N hnl
  replace hk := hide hk
  replace hsr := hide hsr
  cases c
  ·go_upto_region 4 with (go_at_call 132; refine (unhide hsr).mono ?_; rintro e y1 ⟨rfl, q, rfl⟩)
   go_upto_region 6 with fail
   refine (insert_any (w := (y.drewN q).alloc (.cells #[.int .i64 n] 3)) (ns := ns) (N.keep (fun g hg => Below.heap_alloc (y.drewN q) _ g (World.ownsRow.lt N g hg).2)) (by omega) k n y.heap.size hcl (heap_alloc_new (y.drewN q) _) (fun e => by have := (World.ownsRow.lt N _ e).2; omega)).mono ?_
   rintro e z ⟨nv', rfl, hN', hF', hL'⟩
   have hbz := hF'.blk ((Below.heap_alloc (y.drewN q) _ p (lt_of_block hb)).trans hb) (fun e => (RowO.of_own N).ne hb (fun e => ht e.symm) e)
   have hxz := hF'.blk ((Below.heap_alloc (y.drewN q) _ _ hz).trans hbox) (fun e => (RowO.of_own N).ne hbox (by decide) e)
   have cz := (blk_cell hbz).trans a0
   have fz : z.frozen? ⟨p, o, none⟩ = false := by simp [World.frozen?, hbz]
   obtain ⟨ns', hns'⟩ : ∃ x, x = ns.take k ++ n :: ns.drop k := ⟨_, rfl⟩
   rw [← hns'] at hN'
   obtain ⟨g', cap', rfl⟩ := own_shape hN' (by rw [hns']; simp only [List.length_append, List.length_cons]; omega)
   replace hns' := hide hns'
   go_upto_region 6 with fail
   refine wp_world (fun z => ∃ nv', z.heap[p]? = some (.cells ((arr.setIfInBounds o nv').setIfInBounds (o + 1) (.map (some mb'))) t (0, 0)) ∧ z.heap[w.heap.size]? = some (.cells #[.string b, .int .i64 pl] 158 (0, 0)) ∧ NumsAt z nv' ((putL l n (recA b pl)).map (·.1)) ∧ MapAt z mb' (look l) ∧
    Far (fun k => k = p ∨ nv.ownBlock = some k) w z ∧ Loc w nv nv') ?_ ?_
   ·have hne : nv.ownBlock ≠ some mb' := N.notMap M
    have hpn : ∀ g, (Value.slice (some ⟨g', 0, none⟩) ns'.length cap').ownBlock = some g → g ≠ p := fun g hg e => (RowO.of_own hN').ne hbz (fun e => ht e.symm) (by rw [hg, e])
    have hk' := unhide hk
    simp only [Bool.false_eq_true, if_false] at hk'
    have hfal : Far (fun _ => False) y ((y.drewN q).alloc (.cells #[.int .i64 n] 3)) := (far_drewN (fun _ => False) y q).trans (far_below ((Below.refl _ _).alloc (Nat.le_refl _) _)) (fun _ _ h => h)
    have hfz : Far (fun b => b = p ∨ nv.ownBlock = some b) w z := (hfY.mono (fun _ _ h => .inl h)).trans ((hfal.mono (fun _ _ h => h.elim)).trans hF' (fun _ _ h => h)) (fun _ _ h => .inr h)
    refine ⟨_, ?_, (blk_set_ne (by have := lt_of_block hbW; omega)).trans hxz, ?_, ?_, hfz.trans (far_set z p o _) (fun _ _ h => .inl h), loc_less hL' (by simp; omega)⟩
    ·rw [set_comm _ _ (show o ≠ o + 1 by omega)]
     exact blk_set hbz
    ·rw [hk', ← unhide hns']
     exact hN'.keep (fun g hg => blk_set_ne (hpn g hg))
    ·exact M.keep ((blk_set_ne (fun e => M.not_cells (by rw [e]; exact hb))).trans ((hF'.rest _ (by have := M.lt; simp; omega) hne).trans (hfal.rest _ M.lt id)))
   ·skip
    rintro z ⟨nv', hb, hbox, N', M, hf, hl'⟩
    obtain ⟨ob, hU, hM⟩ := run_update_i (P := Tryz.prog) (w := z) (t := 137) Tryz.underlying137 Tryz.underlying3 M n (recA b pl)
    have hU' := hU z.drew rfl
    unfold recA at hU'
    have c1 : z.cell? ⟨p, o + 1, none⟩ = some (.map (some mb')) := (blk_cell hb).trans (by simp [h1s])
    have b0 := blk_cell (i := 0) hbox
    have b1 := blk_cell (i := 1) hbox
    simp at b0 b1
    go_region
    refine bodyPost_end (results_none rfl _ _ _) rfl ⟨rfl, ?_⟩
    exact put_end (v := recA b pl) (W := { z.drew with heap := z.drew.heap.setIfInBounds mb' ob }) h0s h1s hb ht N' M hf hl' hloc hM ((far_drewN _ z 1).trans (far_block mb' ob) (fun _ _ h => h)) (unhide hs) hl
  ·go_upto_region 4 with (go_at_call 132; refine (unhide hsr).mono ?_; rintro e y1 ⟨rfl, q, rfl⟩)
   go_upto_region 6 with fail
   refine wp_world (fun z => ∃ nv', z.heap[p]? = some (.cells ((arr.setIfInBounds o nv').setIfInBounds (o + 1) (.map (some mb'))) t (0, 0)) ∧ z.heap[w.heap.size]? = some (.cells #[.string b, .int .i64 pl] 158 (0, 0)) ∧ NumsAt z nv' ((putL l n (recA b pl)).map (·.1)) ∧ MapAt z mb' (look l) ∧
    Far (fun k => k = p ∨ nv.ownBlock = some k) w z ∧ Loc w nv nv') ?_ ?_
   ·have hk' := unhide hk
    simp only [if_true] at hk'
    refine ⟨nv, ?_, hbox, by rw [hk']; exact N, M, (hfY.mono (fun _ _ h => .inl h)).trans (far_drewN _ y q) (fun _ _ h => h), .inr (.inl rfl)⟩
    rw [set_same h0]
    exact hb
   ·skip
    rintro z ⟨nv', hb, hbox, N', M, hf, hl'⟩
    obtain ⟨ob, hU, hM⟩ := run_update_i (P := Tryz.prog) (w := z) (t := 137) Tryz.underlying137 Tryz.underlying3 M n (recA b pl)
    have hU' := hU z.drew rfl
    unfold recA at hU'
    have c1 : z.cell? ⟨p, o + 1, none⟩ = some (.map (some mb')) := (blk_cell hb).trans (by simp [h1s])
    have b0 := blk_cell (i := 0) hbox
    have b1 := blk_cell (i := 1) hbox
    simp at b0 b1
    go_region
    refine bodyPost_end (results_none rfl _ _ _) rfl ⟨rfl, ?_⟩
    exact put_end (v := recA b pl) (W := { z.drew with heap := z.drew.heap.setIfInBounds mb' ob }) h0s h1s hb ht N' M hf hl' hloc hM ((far_drewN _ z 1).trans (far_block mb' ob) (fun _ _ h => h)) (unhide hs) hl
end Go.Proofs.YtamafdcnbcoegaaGreat
namespace Go.Proofs.YtamafdcnbcoegaaGreat
open Go.RowKit
set_option maxHeartbeats 400000 in
theorem lenA_any {w : World} {p o : Nat} {arr : Array Value} {t : TypeId} {nv mv : Value} {l : List (Nat × Value)} (hb : w.heap[p]? = some (.cells arr t (0, 0))) (h0 : arr[o]? = some nv) (S : ShelfIs w nv mv l) :
  Calls Tryz.prog 143 #[.pointer (some ⟨p, o, none⟩)] w fun e w' => e = .returned (.int .i64 l.length) ∧ w' = w := by
 have c0 : w.cell? ⟨p, o, none⟩ = some nv := (blk_cell hb).trans h0
 have hl : (l.map (·.1)).length = l.length := List.length_map _
 rcases S.nums.cases with ⟨rfl, hz⟩ | ⟨g, cap, cur, rfl, hh, hn, hc, hz, htk⟩
 ·obtain rfl : l = [] := by simpa using hz
  go_enter Tryz.func143, Tryz.ntmps143
  go_wp2
  go_ret
  exact ⟨rfl, rfl⟩
 ·rw [hl] at c0
  clear hb S h0 hh hn htk hl
  generalize l.length = n at *
  go_enter Tryz.func143, Tryz.ntmps143
  go_wp2
  go_ret
  exact ⟨rfl, rfl⟩
theorem last_get {l : List (Nat × Value)} {x : Nat × Value} : (numCells ((l ++ [x]).map (·.1)))[l.length]? = some (.int .i64 (x.1 : Int)) := by
 simp [numCells]
set_option maxHeartbeats 400000 in
theorem lastA_any {w : World} {p o : Nat} {arr : Array Value} {t : TypeId} {nv mv : Value} {l : List (Nat × Value)} (hb : w.heap[p]? = some (.cells arr t (0, 0))) (h0 : arr[o]? = some nv) (S : ShelfIs w nv mv l) :
  Calls Tryz.prog 129 #[.pointer (some ⟨p, o, none⟩)] w fun e w' => e = .returned (.tuple #[.int .i64 (match l.getLast? with | none => 0 | some x => x.1 : Nat), .bool l.getLast?.isSome]) ∧ ∃ n, w' = w.drewN n := by
 have c0 : w.cell? ⟨p, o, none⟩ = some nv := (blk_cell hb).trans h0
 have hl : (l.map (·.1)).length = l.length := List.length_map _
 rcases List.eq_nil_or_concat l with rfl | ⟨l', x, hlx⟩
 ·obtain ⟨ad, cap, e, _⟩ := (RowO.of_own S.nums).shape
  subst e
  simp only [List.map_nil, List.length_nil] at c0
  clear hb S h0 hl
  go_enter Tryz.func129, Tryz.ntmps129
  go_wp2
  go_ret2
  exact ⟨rfl, 0, rfl⟩
 ·obtain rfl : l = l' ++ [x] := by rw [hlx, List.concat_eq_append]
  clear hlx
  rcases S.nums.cases with ⟨rfl, hz⟩ | ⟨g, cap, cur, rfl, hh, hn, hc, hz, htk⟩
  ·simp at hz
  ·have hlen : ((l' ++ [x]).map (·.1)).length = l'.length + 1 := by simp
   have cx : w.cell? ⟨g, l'.length, none⟩ = some (.int .i64 (x.1 : Int)) := by
    rw [World.ownsRow.cellAt S.nums l'.length (by simp)]
    exact last_get
   have hsm := S.len
   simp only [List.length_append, List.length_singleton] at hsm
   rw [hlen] at c0
   have hg : (l' ++ [x]).getLast? = some x := by simp
   rw [hg]
   clear hb S h0 hh hn htk hl hlen hg
   generalize l'.length = n at *
   have hw : IntKind.i64.wrap ((n : Int) + 1 - 1) = n := by rw [IntKind.wrap_i64]; omega
   go_enter Tryz.func129, Tryz.ntmps129
   go_wp2
   go_quiet (fail)
   go_wp2
   go_ret2
   exact ⟨rfl, _, rfl⟩
end Go.Proofs.YtamafdcnbcoegaaGreat
namespace Go.Proofs.YtamafdcnbcoegaaGreat
open Go.RowKit
def cutAt (l : List (Nat × Value)) (n : Nat) : Nat := l.countP (·.1 ≤ n)
theorem cut_sum {ns : List Nat} {n : Nat} (hs : ns.Pairwise (· < ·)) : ns.countP (· < n) + (if ns.contains n then 1 else 0) = ns.countP (· ≤ n) := by
 induction ns with
 | nil => rfl
 | cons x r ih =>
  rw [List.pairwise_cons] at hs
  obtain ⟨h0, hs⟩ := hs
  have ih := ih hs
  rw [List.countP_cons, List.countP_cons, List.contains_cons]
  by_cases h1 : x = n
  ·subst h1
   have hn : r.contains x = false := by
    cases h : r.contains x with
    | false => rfl
    | true => have := h0 x (by simpa using h); omega
   rw [hn] at ih
   simp only [Bool.false_eq_true, if_false, Nat.add_zero] at ih
   simp [ih]
  ·have hne : (n == x) = false := by simp; omega
   rw [hne, Bool.false_or]
   generalize (if r.contains n = true then 1 else 0) = z at *
   by_cases h2 : x < n
   ·have h3 : x ≤ n := by omega
    simp only [h2, h3, decide_true, if_true]
    omega
   ·have h3 : ¬ x ≤ n := by omega
    simp only [h2, h3, decide_false, Bool.false_eq_true, if_false]
    omega
theorem cut_eq {l : List (Nat × Value)} {n : Nat} (hs : (l.map (·.1)).Pairwise (· < ·)) : (l.map (·.1)).countP (· < n) + (if (l.map (·.1)).contains n then 1 else 0) = cutAt l n := by
 rw [cut_sum hs, List.countP_map]
 rfl
theorem cut_le (l : List (Nat × Value)) (n : Nat) : cutAt l n ≤ l.length := List.countP_le_length
theorem cut_split {l : List (Nat × Value)} {n : Nat} (hs : (l.map (·.1)).Pairwise (· < ·)) : (∀ x ∈ l.take (cutAt l n), x.1 ≤ n) ∧ ∀ x ∈ l.drop (cutAt l n), n < x.1 := by
 induction l with
 | nil => simp [cutAt]
 | cons x r ih =>
  rw [List.map_cons, List.pairwise_cons] at hs
  obtain ⟨h0, hs⟩ := hs
  obtain ⟨i1, i2⟩ := ih hs
  by_cases h : x.1 ≤ n
  ·have hc : cutAt (x :: r) n = cutAt r n + 1 := by simp [cutAt, h]
   rw [hc, List.take_succ_cons, List.drop_succ_cons]
   refine ⟨fun y hy => ?_, i2⟩
   cases hy with
   | head => exact h
   | tail _ hy => exact i1 y hy
  ·have hc : cutAt (x :: r) n = 0 := by
    unfold cutAt
    rw [List.countP_eq_zero]
    intro y hy
    cases hy with
    | head => simpa using h
    | tail _ hy =>
     have := h0 y.1 (List.mem_map.2 ⟨y, hy, rfl⟩)
     simp; omega
   rw [hc]
   refine ⟨by simp, fun y hy => ?_⟩
   cases hy with
   | head => omega
   | tail _ hy =>
    have := h0 y.1 (List.mem_map.2 ⟨y, hy, rfl⟩)
    omega
theorem del_look {x : Nat × Value} {r : List (Nat × Value)} (h : ∀ y ∈ r, x.1 < y.1) : delF (look (x :: r)) x.1 = look r := by
 funext k
 unfold delF
 by_cases hk : k = (x.1 : Int)
 ·rw [if_pos hk]
  cases hv : look r k with
  | none => rfl
  | some v =>
   obtain ⟨y, hy, e, _⟩ := look_mem hv
   have := h y hy
   omega
 ·rw [if_neg hk, look_cons, if_neg hk]
theorem Far.behind {E : Nat → Prop} {w x y : World} (h : Far E w x) (h' : Below w.heap.size x y) : Far E w y :=
 ⟨h'.os.trans h.os, h'.tape.trans h.tape, h'.output.trans h.output, Nat.le_trans h.size h'.size, fun k hk he => (h'.block k hk).trans (h.rest k hk he)⟩
theorem ownsRow_keep2 {w w' : World} {B size : Nat} {e : TypeId} {v : Value} {n : Nat} {xs : List Value} (h : w.ownsRow B e size v n xs) (hk : ∀ g, v.ownBlock = some g → w'.heap[g]? = w.heap[g]?) : w'.ownsRow B e size v n xs := by
 obtain ⟨h1, h2⟩ := h
 refine ⟨h1, ?_⟩
 rcases h2 with h2 | ⟨g, cap, cur, rfl, hb, hh, r⟩
 ·exact .inl h2
 ·exact .inr ⟨g, cap, cur, rfl, hb, by rw [hk g rfl]; exact hh, r⟩
def vcells : Value → List Value
 | .agg a => a.toList
 | v => [v]
def flat (l : List (Nat × Value)) : List Value := l.flatMap fun x => vcells x.2
theorem flat_snoc (l : List (Nat × Value)) (x : Nat × Value) : flat (l ++ [x]) = flat l ++ vcells x.2 := by simp [flat]
structure ShTook (w x : World) (p o : Nat) (t : TypeId) (arr : Array Value) (nv mv : Value) (l' : List (Nat × Value)) : Prop where
 out : ∃ nv', ShAt x p o t (arr.setIfInBounds o nv') nv' mv l' ∧ nv'.ownBlock = nv.ownBlock
 far : Far (fun k => k = p ∨ ShU nv mv k) w x
theorem ShTook.step {w x : World} {p o : Nat} {t : TypeId} {arr : Array Value} {nv mv : Value} {l' : List (Nat × Value)} (h : ShTook w x p o t arr nv mv l') (h1 : arr[o + 1]? = some mv) : ShStep w x p o t arr nv mv l' := by
 obtain ⟨nv', S, e⟩ := h.out
 have e2 : (arr.setIfInBounds o nv').setIfInBounds (o + 1) mv = arr.setIfInBounds o nv' := set_same (by rw [Array.getElem?_setIfInBounds_ne (by omega)]; exact h1)
 exact ⟨⟨nv', mv, by rw [e2]; exact S, .inr (.inl e), .inl rfl⟩, h.far⟩
theorem infoRA : (Tryz.prog.info? 158).map (fun i => (i.zero, i.size, i.bytes)) = some (some (.agg #[.string ⟨#[]⟩, .int .i64 0]), 2, 24) := by kernel_rfl
set_option maxRecDepth 100000 in
set_option maxHeartbeats 2000000 in
theorem takeUpToA_any {w : World} {p o : Nat} {t : TypeId} {arr : Array Value} {nv mv : Value} {l : List (Nat × Value)} (S : ShAt w p o t arr nv mv l) (A : AreA l) (n : Nat) :
  Calls Tryz.prog 200 #[.pointer (some ⟨p, o, none⟩), .int .i64 n] w fun e w' => ∃ v, e = .returned v ∧
   w'.ownsRow w.heap.size 158 2 v (cutAt l n) (flat (l.take (cutAt l n))) ∧ ShTook w w' p o t arr nv mv (l.drop (cutAt l n)) := by
 obtain ⟨hbW, h0, h1, S, ht⟩ := S
 have h0s : o < arr.size := (Array.getElem?_eq_some_iff.1 h0).1
 have h1s : o + 1 < arr.size := (Array.getElem?_eq_some_iff.1 h1).1
 have c0 : w.cell? ⟨p, o, none⟩ = some nv := (blk_cell hbW).trans h0
 have hlen := S.len
 have hsr := search_any S.nums S.sorted (by simp; omega) n
 have hcut := cut_eq (n := n) S.sorted
 have hcl := cut_le l n
 have hk0 : (l.map (·.1)).countP (· < n) ≤ l.length := by have := List.countP_le_length (p := (· < n)) (l := l.map (·.1)); simpa using this
 obtain ⟨i0, hi, hz0, hz1, hz2⟩ := info_parts2 infoRA
 generalize cutAt l n = ce at *
 generalize (l.map (·.1)).countP (· < n) = k0 at *
 generalize (l.map (·.1)).contains n = c at *
 have hkl : (l.map (·.1)).length = l.length := List.length_map _
 have SS := hide S
 have HL := hide hkl
 replace hsr := hide hsr
 rcases S.nums.cases with ⟨hnv, hlz⟩ | ⟨g, cap, cur, hnv, hh, hn, hc, hz, htk⟩
 ·subst hnv
  obtain rfl : l = [] := by simpa using hlz
  obtain rfl : ce = 0 := by simpa using hcl
  obtain rfl : k0 = 0 := by simpa using hk0
  have hc : c = false := by cases c <;> simp_all
  subst hc
  have hde := fun y : World => delete_any (numsAt_nil y) 0 0 (by omega) (by simp)
  simp only [show ((0 : Nat) : Int) = 0 from rfl, List.take_nil, List.drop_nil, List.nil_append] at hde
  have HDE := fun y => hide (hde y)
  clear S hkl hde hcut hk0 hcl hlz
  simp only [show ((0 : Nat) : Int) = 0 from rfl] at hsr
  go_enter Tryz.func200, Tryz.ntmps200
  go_upto_region 5 with (go_at_call 132; refine (unhide hsr).mono ?_; rintro e y ⟨rfl, q, rfl⟩)
  go_wp2
  go_loopw [5, 9, 29] (fun v5 _ i wr => v5 = .slice none 0 0 ∧ i = .int .i64 0 ∧ wr = w.drewN q) (fun _ _ i _ => 0)
  case atStart => exact ⟨rfl, rfl, rfl⟩
  case round =>
   obtain ⟨rfl, rfl, rfl⟩ := hrel
   go_upto_region 12 with fail
   refine (unhide (HDE _)).mono ?_
   rintro e z ⟨nv', rfl, N', hF', hown⟩
   obtain rfl : nv' = .slice none 0 0 := by
    rcases N'.cases with ⟨h, _⟩ | ⟨g', cap', cur', rfl, _⟩
    ·exact h
    ·cases hown
   have hfz : Far (fun _ => False) w z := (far_drewN (fun _ => False) w q).trans (hF'.mono (fun _ _ h => by cases h)) (fun _ _ h => h)
   have hbz := hfz.blk hbW id
   have cz := (blk_cell hbz).trans h0
   have fz : z.frozen? ⟨p, o, none⟩ = false := by simp [World.frozen?, hbz]
   replace N' := hide N'
   replace hfz := hide hfz
   clear hF' hown
   go_wp2
   go_ret
   have S0 := unhide SS
   have hE : z.setCell ⟨p, o, none⟩ (.slice none 0 0) = z.setCell ⟨p, o, none⟩ (.slice none 0 0) := rfl
   refine ⟨_, rfl, World.ownsRow_nil _ _ _ _, ⟨_, ⟨blk_set hbz, by simp [h0s], by rw [Array.getElem?_setIfInBounds_ne (by omega)]; exact h1, ⟨numsAt_nil _, (S0.far (unhide hfz) (fun _ _ h => h)).map.keep (fun b hb' => blk_set_ne (fun e => ?_)), by simp, by simp⟩, ht⟩, rfl⟩, ((unhide hfz).mono (fun _ _ h => h.elim)).trans (far_set z p o _) (fun _ _ h => .inl h)⟩
   exact S0.ne hbW ht (.inr (by rw [hb', e]))
 ·rw [hkl] at hnv hn
  subst hnv
  have N0 := hide S.nums
  cases c
  all_goals
   simp only [if_true, if_false, Bool.false_eq_true, Nat.add_zero] at hcut
   clear S htk hkl
   try (rw [hcut] at hsr)
   have hcI : ((k0 : Int) + 1 = (ce : Int)) = ((k0 : Int) + 1 = (ce : Int)) := rfl
   try (have hcI : (k0 : Int) + 1 = ce := by omega)
   replace hcut := hide hcut
   go_enter Tryz.func200, Tryz.ntmps200
   go_upto_region 5 with (go_at_call 132; refine (unhide hsr).mono ?_; rintro e y ⟨rfl, q, rfl⟩)
  all_goals
   go_wp2
   go_loopw [5, 9, 29] (fun v5 _ i wr => ∃ k : Nat, k ≤ ce ∧ i = .int .i64 k ∧ wr.ownsRow w.heap.size 158 2 v5 k (flat (l.take k)) ∧ wr.heap[p]? = some (.cells arr t (0, 0)) ∧ NumsAt wr (.slice (some ⟨g, 0, none⟩) l.length cap) (l.map (·.1)) ∧ MapV wr mv (look (l.drop k)) ∧ Far (fun b => mapBlock mv = some b) w wr) (fun _ _ i _ => l.length - (intOf i).toNat)
   case atStart => exact ⟨0, by omega, rfl, World.ownsRow_nil _ _ _ _, hbW, (unhide SS).nums, by rw [List.drop_zero]; exact (unhide SS).map, far_drewN _ w q⟩
   case round =>
    obtain ⟨k, hk, rfl, ho, hb, N, M, hf⟩ := hrel
    by_cases hlt : k < ce
    ·have hkl : k < l.length := by omega
     obtain ⟨b, pl, hx⟩ := A l[k] (List.getElem_mem hkl)
     have hdr : l.drop k = l[k] :: l.drop (k + 1) := List.drop_eq_getElem_cons hkl
     have hlk : look (l.drop k) (l[k].1 : Int) = some l[k].2 := by rw [hdr, look_cons, if_pos rfl]
     have hsorted := (unhide SS).sorted
     have hgt : ∀ y ∈ l.drop (k + 1), l[k].1 < y.1 := fun y hy => by
      have h1 : ((l.drop k).map (·.1)).Pairwise (· < ·) := by rw [List.map_drop]; exact hsorted.drop
      rw [hdr, List.map_cons, List.pairwise_cons] at h1
      exact h1.1 y.1 (List.mem_map.2 ⟨y, hy, rfl⟩)
     have hdel := del_look hgt
     rw [← hdr] at hdel
     have htake : flat (l.take (k + 1)) = flat (l.take k) ++ vcells l[k].2 := by rw [← flat_snoc, List.take_add_one, List.getElem?_eq_getElem hkl]; rfl
     have c0 := (blk_cell hb).trans h0
     have c1 := (blk_cell hb).trans h1
     have cn : wr.cell? ⟨g, k, none⟩ = some (.int .i64 (l[k].1 : Int)) := by
      rw [N.cell' (by simpa using hkl)]
      simp [List.getD_eq_getElem?_getD, hkl]
     rcases M with ⟨rfl, hM⟩ | ⟨mb, rfl, hM⟩
     ·rw [hM] at hlk; cases hlk
     have hrun := (run_lookup_i (P := Tryz.prog) (w := wr) (t := 137) Tryz.underlying137 Tryz.underlying3 (zero_A wr) (.inr ⟨mb, rfl, hM⟩) (l[k].1 : Int)).2
     rw [hlk, hx] at hrun
     rw [hx] at htake
     simp only [Option.getD_some, recA] at hrun
     have HT := hide htake
     have HD := hide hdel
     have HO := hide ho
     have HN := hide N
     have HM := hide hM
     have HF := hide hf
     have HX := hide hx
     clear ho N hM hf htake hdel hlk hx hdr hgt hsorted
     generalize hxn : l[k].1 = xn at *
     replace hxn := hide hxn
     have hsz := (unhide HF).size
     have hmb : mb < w.heap.size := (unhide SS).map.lt mb rfl
     have hpw := lt_of_block hbW
     have hk5 := fun g' (hg' : u5.ownBlock = some g') => World.ownsRow.lt (unhide HO) g' hg'
     go_upto_region 9 with (at_builtin; refine wpList_append_own _ rfl (.tmp 33) (.tmp 40) 272 rfl w.heap.size 158 i0 (.agg #[.string ⟨#[]⟩, .int .i64 0]) 2 24 Tryz.underlying272 hi hz0 hz1 hz2 rfl (by decide) u5 k (flat (l.take k)) rfl ((unhide HO).alloc _) ⟨wr.heap.size, 0, none⟩ 1 1 (vcells (recA b pl)) rfl rfl cells_new (by intro u hu; simp [vcells, recA] at hu; first | (rcases hu with rfl | rfl <;> rfl) | (subst hu; rfl)) (by unfold maxLen; omega) (by omega) (by simp; omega) ?_; intro v' w1 hown' hgrow _; have hb1 : Below w.heap.size wr w1 := ((Below.refl _ wr).alloc hsz _).trans (below_grown_new (B := w.heap.size) hgrow (by simp; omega) (fun g' hg' => (hk5 g' hg').1)); obtain ⟨ob, hU, hM1⟩ := run_delete_i (P := Tryz.prog) (w := w1) (t := 137) (K' := 3) Tryz.underlying137 Tryz.underlying3 ((unhide HM).keep (hb1.block mb hmb)) xn; have hU2 := fun ty => hU ty w1 rfl; have hp1 := (hb1.block p hpw).trans hb; have c1' := (blk_cell hp1).trans h1; replace hown' := hide hown'; replace hM1 := hide hM1; replace hb1 := hide hb1; clear hgrow hU)
     go_wp2
     have hpm : p ≠ mb := fun e => (unhide HM).not_cells (by rw [← e]; exact hb)
     have hnm := (unhide HN).notMap (unhide HM)
     have hg := (World.ownsRow.lt (unhide HN) g rfl).2
     have hgw : g < w.heap.size := lt_of_block hh
     have hW := far_block (w := w1) mb ob
     have hN1 := (unhide HN).keep (w' := { w1 with heap := w1.heap.setIfInBounds mb ob }) (fun g' hg' => by
      cases hg'
      exact (hW.rest g (Nat.lt_of_lt_of_le hgw (Nat.le_trans hsz (unhide hb1).size)) (fun e => hnm (by rw [e]; rfl))).trans ((unhide hb1).block g hgw))
     have ho1 := ownsRow_keep2 (w' := { w1 with heap := w1.heap.setIfInBounds mb ob }) (unhide hown') (fun g' hg' => hW.rest g' (World.ownsRow.lt (unhide hown') g' hg').2 (fun e => by have := (World.ownsRow.lt (unhide hown') g' hg').1; omega))
     refine ⟨⟨k + 1, by omega, by go_num, by rw [unhide HT]; exact ho1, (hW.rest p (lt_of_block hp1) hpm).trans hp1, hN1, .inr ⟨mb, rfl, by rw [← unhide HD]; exact unhide hM1⟩,
      ((unhide HF).behind (unhide hb1)).trans hW (fun _ _ h => by rw [h]; rfl)⟩, by simp [intOf]; omega⟩
    ·obtain rfl : k = ce := by omega
     have HO := hide ho
     have HN := hide N
     have HM := hide M
     have HF := hide hf
     have hll : (l.map (·.1)).length = l.length := List.length_map _
     have hgp : g ≠ p := fun e => (RowO.of_own N).ne hb (fun e => ht e.symm) (by rw [← e]; rfl)
     have c0 := (blk_cell hb).trans h0
     have hde := delete_any N 0 k (by omega) (by omega)
     rw [show ((0 : Nat) : Int) = 0 from rfl, List.take_zero, List.nil_append, ← List.map_drop] at hde
     replace hde := hide hde
     clear ho N M hf hll
     go_upto_region 12 with fail
     refine (unhide hde).mono ?_
     rintro e z ⟨nv', rfl, N', hF', hown⟩
     have hbz := hF'.blk hb (fun e => hgp (by cases e; rfl))
     have cz := (blk_cell hbz).trans h0
     have fz : z.frozen? ⟨p, o, none⟩ = false := by simp [World.frozen?, hbz]
     have hlk : (List.map (fun x => x.1) (List.drop k l)).length = l.length - k := by simp
     have hsh := (RowO.of_own N').shape
     rw [hlk] at hsh
     obtain ⟨ad', cap', rfl, _⟩ := hsh
     replace hlk := hide hlk
     replace N' := hide N'
     replace hown := hide hown
     replace hF' := hide hF'
     go_wp2
     go_ret
     have S0 := unhide SS
     have hfar : Far (fun b => b = p ∨ ShU (.slice (some ⟨g, 0, none⟩) l.length cap) mv b) w z := ((unhide HF).mono (fun _ _ h => .inr (.inr h))).trans (unhide hF') (fun _ _ h => .inr (.inl h))
     have hkeep : ∀ b, b ≠ p → (z.setCell ⟨p, o, none⟩ (.slice ad' (l.length - k) cap')).heap[b]? = z.heap[b]? := fun b hb => blk_set_ne hb
     have hmz : ∀ b, mapBlock mv = some b → b ≠ p ∧ z.heap[b]? = wr.heap[b]? := fun b hb' => by
      rcases unhide HM with ⟨h, _⟩ | ⟨b', h, hM'⟩
      ·rw [h] at hb'; cases hb'
      ·rw [h] at hb'; cases hb'
       exact ⟨fun e => hM'.not_cells (by rw [e]; exact hb), (unhide hF').rest b hM'.lt (fun e => (unhide HN).notMap hM' e)⟩
     refine ⟨_, rfl, ownsRow_keep2 (unhide HO) (fun g' hg' => ?_), ⟨_, ⟨blk_set hbz, by simp [h0s], by rw [Array.getElem?_setIfInBounds_ne (by omega)]; exact h1, ⟨(unhide N').keep (fun g' hg' => hkeep g' ?_), (unhide HM).keep (fun b hb' => (hkeep b (hmz b hb').1).trans (hmz b hb').2), by rw [List.map_drop]; exact S0.sorted.drop, by rw [List.length_drop]; omega⟩, ht⟩, unhide hown⟩, hfar.trans (far_set z p o _) (fun _ _ h => .inl h)⟩
     ·have hg5 := World.ownsRow.lt (unhide HO) g' hg'
      have hpw := lt_of_block hbW
      have hgw := lt_of_block hh
      exact (hkeep g' (by omega)).trans ((unhide hF').rest g' hg5.2 (fun e => by have e2 : g = g' := Option.some.inj e; omega))
     ·rw [unhide hown] at hg'
      cases hg'
      exact hgp
end Go.Proofs.YtamafdcnbcoegaaGreat
namespace Go.Proofs.YtamafdcnbcoegaaGreat
open Go.RowKit
theorem run_loadVar_at {P : Program} (w : World) (a : Addr) (ty : TypeId) (cs : List Value) (hc : ∀ j v, cs[j]? = some v → w.cell? (a.add j) = some v)
  (hagg : (isAgg ty).run P w = .ok true w) (hi : (P.info? ty).map (·.size) = some cs.length) :
  (loadVar ty a).run P w = .ok (.agg cs.toArray) w := by
 have hl : (loadCells a cs.length).run P w = .ok cs.toArray w := run_loadCells_list (P := P) w a cs hc
 cases hq : P.info? ty with
 | none => simp [hq] at hi
 | some i =>
  have hs : i.size = cs.length := by simpa [hq] using hi
  simp [loadVar, Sem.run_bind, hagg, sizeOf, typeInfo, hq, hs, hl]
theorem isAgg_write (w : World) : (isAgg 261).run Tryz.prog w = .ok true w := by
 simp [isAgg, run_underlying Tryz.underlying261]
theorem size_write : (Tryz.prog.info? 261).map (·.size) = some 65 := by kernel_rfl
theorem wpList_load_write {ops : Array Oper} {rest : List Oper} {o : Oper} {a : Act} {w : World} {Q : Exit → Act → World → Prop} (hgd : o.guard = none) (x : Operand) (ho : o.op = .load 261 x)
  (ad : Addr) (hx : a.eval x = .pointer (some ad)) (cs : List Value) (hcs : cs.length = 65) (hc : ∀ j v, cs[j]? = some v → w.cell? (ad.add j) = some v)
  (h : wpList Tryz.prog ops Q rest (a.put o.dst (.agg cs.toArray)) w) : wpList Tryz.prog ops Q (o :: rest) a w := by
 refine wpList_plain hgd fun K hK => ?_
 unfold Oper.wp execOp
 simp only [ho, hx, Instr.loadAt, Instr.sureAddr, Sem.run_bind, Sem.run_pure, Result.andThen_ok, run_loadVar_at w ad 261 cs hc (isAgg_write w) (by rw [size_write, hcs])]
 exact hK _ _ h
theorem oper_load_write {o : Oper} {a : Act} {w : World} {K : Act → World → Prop} {Q : Exit → Act → World → Prop} (x : Operand) (ho : o.op = .load 261 x)
  (ad : Addr) (hx : a.eval x = .pointer (some ad)) (cs : List Value) (hcs : cs.length = 65) (hc : ∀ j v, cs[j]? = some v → w.cell? (ad.add j) = some v)
  (h : K (a.put o.dst (.agg cs.toArray)) w) : o.wp Tryz.prog a w K Q := by
 unfold Oper.wp execOp
 simp only [ho, hx, Instr.loadAt, Instr.sureAddr, Sem.run_bind, Sem.run_pure, Result.andThen_ok, run_loadVar_at w ad 261 cs hc (isAgg_write w) (by rw [size_write, hcs])]
 exact h
theorem sync_dead (w : World) (p : Nat) (lv uv : Value) (n : Int) (hb : w.heap[p]? = some (.cells #[lv, uv, .int .i64 n, .bool true] 252 (0, 0))) :
  Calls Tryz.prog 183 #[.pointer (some ⟨p, 0, none⟩)] w fun r w' => r = .returned (.tuple #[]) ∧ w' = w := by
 have c3 : w.cell? ⟨p, 3, none⟩ = some (.bool true) := blk_cell (i := 3) hb
 clear hb
 go_enter Tryz.func183, Tryz.ntmps183
 go_wp2
 exact bodyPost_ret (results_none rfl _ _ _) rfl ⟨rfl, rfl⟩
structure SyAt (w x : World) (p : Nat) (lv : Value) (g o cap : Nat) (n : Int) (cs : List Value) (L : List UInt8) : Prop where
 blk : x.heap[p]? = some (.cells #[lv, .slice (some ⟨g, o, none⟩) 1 cap, .int .i64 n, .bool false] 252 (0, 0))
 un : RowO x 261 65 (.slice (some ⟨g, o, none⟩) 1 cap) 1 cs
 row : x.ownsRow 0 5 1 lv L.length (bv L)
 far : Far (fun j => lv.ownBlock = some j) w x
set_option maxRecDepth 100000 in
set_option maxHeartbeats 4000000 in
theorem sync_one (w : World) (p : Nat) (lv uv : Value) (n : Int) (k : Nat) (S L : List UInt8) (hS : S.length = 64) (hk : 64 * k + 64 ≤ L.length) (hL : L.length ≤ 10000)
  (hb : w.heap[p]? = some (.cells #[lv, uv, .int .i64 n, .bool false] 252 (0, 0))) (hu : RowO w 261 65 uv 1 (.int .i64 k :: bv S)) (hr : w.ownsRow 0 5 1 lv L.length (bv L)) :
  Calls Tryz.prog 183 #[.pointer (some ⟨p, 0, none⟩)] w fun r w' => r = .returned (.tuple #[]) ∧
   ∃ uv', w'.heap[p]? = some (.cells #[lv, uv', .int .i64 n, .bool false] 252 (0, 0)) ∧ uv'.ownBlock = uv.ownBlock ∧ RowO w' 261 65 uv' 0 [] ∧
    w'.ownsRow 0 5 1 lv (Mod.setSec L k S).length (bv (Mod.setSec L k S)) ∧ Far (fun j => j = p ∨ lv.ownBlock = some j) w w' := by
 obtain ⟨cs, hcsd⟩ : ∃ cs, cs = Value.int .i64 k :: bv S := ⟨_, rfl⟩
 rw [← hcsd] at hu
 have hcs : cs.length = 65 := by rw [hcsd]; simp [bv_length, hS]
 have h1c : ∀ u ∈ cs, u.oneCell' = true := by
  rw [hcsd]
  intro u hu
  cases hu with
  | head => rfl
  | tail _ hu => exact bv_oneCell S u hu
 have HCS := hide hcsd
 clear hcsd
 obtain ⟨ad, cap, rfl, hc1, hc2, hsh⟩ := hu.shape
 obtain ⟨g, o, rfl, hcell⟩ := hsh (by omega)
 have hpl := lt_of_block hb
 have SY0 : SyAt w w p lv g o cap n cs L := ⟨hb, hu, hr, Far.refl _ _⟩
 have c3 : w.cell? ⟨p, 3, none⟩ = some (.bool false) := blk_cell (i := 3) hb
 have c1 : w.cell? ⟨p, 1, none⟩ = some (.slice (some ⟨g, o, none⟩) 1 cap) := blk_cell (i := 1) hb
 have HS0 := hide SY0
 clear hb hu hr SY0 hcell hsh
 go_enter Tryz.func183, Tryz.ntmps183
 go_upto_region 2 with fail
 go_wp2
 go_loopw [3, 13] (fun _ i wr => ∃ j : Nat, j ≤ 1 ∧ i = .int .i64 j ∧ SyAt w wr p lv g o cap n cs (if j = 0 then L else Mod.setSec L k S)) (fun _ i _ => 1 - (intOf i).toNat)
 case atStart => exact ⟨0, by omega, rfl, unhide HS0⟩
 case round =>
  obtain ⟨j, hj, rfl, SY⟩ := hrel
  clear HS0 c1 c3
  rcases (show j = 0 ∨ j = 1 by omega) with rfl | rfl
  ·have SY : SyAt w wr p lv g o cap n cs L := SY
   have c0 : wr.cell? ⟨p, 0, none⟩ = some lv := blk_cell (i := 0) SY.blk
   have hcell : ∀ j v, cs[j]? = some v → wr.cell? ((⟨g, o, none⟩ : Addr).add j) = some v := by
    obtain ⟨ad', cap', e, _, _, hsh⟩ := SY.un.shape
    obtain ⟨g', o', e2, hc⟩ := hsh (by omega)
    cases e
    cases e2
    intro j v hj
    have hjl : j < 65 := by rw [← hcs]; exact (List.getElem?_eq_some_iff.1 hj).1
    rw [add_mk, hc j (by omega)]
    exact hj
   have hplr := lt_of_block SY.blk
   have HSY := hide SY
   have HC := hide hcell
   clear SY hcell
   go_upto_region 4 with (first
    | (refine wpList_load_write rfl (.tmp 15) rfl ⟨g, o, none⟩ rfl cs hcs (unhide HC) ?_)
    | (refine wpList_store_row rfl 261 (.tmp 3) (.tmp 16) rfl wr.heap.size cs.toArray rfl rfl 261 _ (heap_alloc_new _ _) (by rw [size_write]; simp [hcs]) (by simp [hcs]) (by rw [Array.all_eq_true_iff_forall_mem]; intro v hv; exact h1c v (by simpa using hv)) ?_; go_simp))
   refine wp_world (fun x => x.heap[wr.heap.size]? = some (.cells cs.toArray 261 (0, 0)) ∧ SyAt w x p lv g o cap n cs L) ?_ ?_
   ·have hF : Far (fun _ => False) wr ((wr.alloc (.cells Tryz.zeroCells261 261)).setRow wr.heap.size cs.toArray) :=
     ⟨rfl, rfl, rfl, by simp, fun k hk _ => (setRow_other _ _ k _ (by omega)).trans (hao _ _ hk)⟩
    refine ⟨setRow_heap _ _ _ _ _ _ (heap_alloc_new _ _), hF.blk (unhide HSY).blk (fun h => h), (unhide HSY).un.far hF (fun _ _ h => h), ownsRow_keepB (unhide HSY).row (fun g hg => hF.rest g (World.ownsRow.lt (unhide HSY).row g hg).2 (fun h => h)), (unhide HSY).far.trans hF (fun _ _ h => h.elim)⟩
   rintro x ⟨hn0, SX⟩
   have cx : x.cell? ⟨p, 0, none⟩ = some lv := blk_cell (i := 0) SX.blk
   have hplx := lt_of_block SX.blk
   have hnl := lt_of_block hn0
   have HN := hide hn0
   have HSX := hide SX
   have hA := fun y hrow => hide (apply_any y k S L lv hS hk hL hrow)
   rw [← unhide HCS] at hA
   clear hn0 SX HSY HC c0
   refine wp_region_last (by kernel_rfl)
    [fun v _ => v = .agg cs.toArray, fun v _ => v = .pointer (some ⟨p, 0, none⟩), fun v _ => v = .pointer (some ⟨p, 0, none⟩), fun v _ => v = .pointer (some ⟨p, 0, none⟩), fun v _ => v = lv, fun _ _ => True]
    [[(3, none)], [(0, none)], [(18, some 1)], [(19, some 2)], [(20, some 3)], [(17, some 0), (21, some 4)]] [some 17, some 18, some 19, some 20, some 21, some 22] [false, false, false, false, false, false, false, false, false, false, false, false, false, false, false, false, false, true, true, true, true, true, true, false, false, false, false, false, false, false, false, false]
    5 _ rfl rfl (by kernel_rfl) (by kernel_rfl) (by kernel_rfl) (by kernel_rfl) (by kernel_rfl) (by kernel_rfl) ?_ ?_ ?_
   ·repeat' (first | exact stable_eq _ | exact stable_true | exact trivial | apply And.intro)
   ·refine ⟨?_, ?_, ?_, ?_, ?_, trivial⟩
    all_goals
     intro a y hb hf
     have y0 := (hb.cell (p := ⟨p, 0, none⟩) (by show p < _; omega)).trans cx
     have yn := (hb.block _ hnl).trans (unhide HN)
     clear hb
     simp only [PlanFacts, List.getD_cons_zero, List.getD_cons_succ, Array.getD_eq_getD_getElem?] at hf
     try simp at hf
    ·rw [if_pos (by rfl)]
     refine oper_load_write (.tmp 3) rfl ⟨wr.heap.size, 0, none⟩ (by simp [Act.eval, hf]) cs hcs ?_ ⟨_, rfl, Below.refl _ _, rfl⟩
     intro j v hj
     rw [add_mk, blk_cell yn, List.getElem?_toArray, Nat.zero_add]
     exact hj
    all_goals
     clear yn
     go_simp
     try exact ⟨_, rfl, Below.refl _ _, rfl⟩
     try exact Below.refl _ _
   ·intro f y hb hwd
    simp only [AllWords, List.take] at hwd
    have hf17 := hwd.1
    have hf21 := hwd.2.2.2.2.1
    simp only [mergeT, hf17, hf21]
    have SY : SyAt w y p lv g o cap n cs L := by
     have SX := unhide HSX
     exact ⟨(hb.block _ hplx).trans SX.blk, SX.un.keep (fun g hg => hb.block g (SX.un.lt g hg)), ownsRow_keepB SX.row (fun g hg => hb.block g (World.ownsRow.lt SX.row g hg).2), SX.far.trans (far_below (E := fun _ => False) hb) (fun _ _ h => h.elim)⟩
    have HY := hide SY
    clear hb hwd hf17 hf21 SY HSX HN cx
    go_simp
    refine (unhide (hA y (unhide HY).row)).mono ?_
    rintro r z ⟨rfl, hrz, hFz⟩
    have SY := unhide HY
    have hne : ∀ h, lv.ownBlock = some h → h ≠ p := fun h hh e => (RowO.of_own SY.row).ne SY.blk (by decide) (by rw [hh, e])
    have SZ : SyAt w z p lv g o cap n cs (Mod.setSec L k S) :=
     ⟨hFz.blk SY.blk (fun e => hne _ e rfl), SY.un.far hFz (fun h hh e => (RowO.of_own SY.row).ty SY.un (by decide) e hh), hrz, SY.far.trans hFz (fun _ _ h => h)⟩
    have HZ := hide SZ
    clear SY SZ hrz hFz HY hA hne
    go_wp2
    exact ⟨⟨1, by omega, by go_num, unhide HZ⟩, by simp [intOf]⟩
  ·have SY : SyAt w wr p lv g o cap n cs (Mod.setSec L k S) := SY
   have c1 : wr.cell? ⟨p, 1, none⟩ = some (.slice (some ⟨g, o, none⟩) 1 cap) := blk_cell (i := 1) SY.blk
   have f1 : wr.frozen? ⟨p, 1, none⟩ = false := blk_free (i := 1) SY.blk
   have HSY := hide SY
   clear SY
   go_wp2
   refine bodyPost_end (results_none rfl _ _ _) rfl ⟨rfl, ?_⟩
   have SZ := unhide HSY
   have hfs := far_set wr p 1 (.slice (some ⟨g, o, none⟩) 0 cap)
   refine ⟨.slice (some ⟨g, o, none⟩) 0 cap, ?_, rfl, ?_, ownsRow_keepB SZ.row (fun h hh => hfs.rest h (World.ownsRow.lt SZ.row h hh).2 (fun e => (RowO.of_own SZ.row).ne SZ.blk (by decide) (by rw [hh, e]))), ?_⟩
   ·have := blk_set (j := 1) (v := .slice (some ⟨g, o, none⟩) 0 cap) SZ.blk
    simpa using this
   ·have h0 := SZ.un.far hfs (fun h hh e => SZ.un.ne SZ.blk (by decide) (by rw [hh, e]))
    obtain ⟨_, h2⟩ := h0
    rcases h2 with ⟨h2, _⟩ | ⟨g', o', cap', cur, e1, hh, hn', hc', hz', ht'⟩
    ·cases h2
    ·cases e1
     exact ⟨by simp, .inr ⟨g, o, cap, cur, rfl, hh, Nat.zero_le _, hc2, hz', by simp⟩⟩
   ·exact (SZ.far.mono (fun _ _ h => .inr h)).trans hfs (fun _ _ h => .inl h)
end Go.Proofs.YtamafdcnbcoegaaGreat
