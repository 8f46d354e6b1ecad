/-
  Part 11 of a proof: E3, K20, K21, L30, D25, B1, L32, L33, L39.
-/
import Derived.Test.YtamafdcnbcoegaaGreatFl10
namespace Go.Proofs.YtamafdcnbcoegaaGreat
namespace Mod

def cnt (l : Nat → List ByteArray) : Nat := (l 0).length + (l 1).length + (l 2).length
/-- A record more of a stream. -/
def logAdd (l : Nat → List ByteArray) (s : Nat) (b : ByteArray) : Nat → List ByteArray := fun j => if j = s then l s ++ [b] else l j
theorem cnt_add (l : Nat → List ByteArray) (s : Nat) (b : ByteArray) (hs : s < 3) : cnt (logAdd l s b) = cnt l + 1 := by
  unfold cnt logAdd
  obtain rfl | rfl | rfl : s = 0 ∨ s = 1 ∨ s = 2 := by omega
  all_goals
    simp
    try omega
def skLd : List Rc → Nat → (Nat → List ByteArray) → Option (Nat → List ByteArray)
  | [], _, l => some l
  | r :: rs, x, l => if r.q = 0 then skLd rs (x + 1) l else if x = cnt l ∧ r.q = (l r.s).length + 1 then skLd rs (x + 1) (logAdd l r.s r.b) else none
/-- What a sink's disk has. -/
def skLoad (L : List UInt8) : Option Sk :=
  match openSt L with
  | none => none
  | some (h, _, rs) => if h.b = 0 ∧ h.d = 0 then (match skLd rs 0 (fun _ => []) with
    | none => none
    | some l => some { epoch := h.a, logs := l, held := [] }) else none
theorem skLd_app : ∀ (rs qs : List Rc) (x : Nat) (l : Nat → List ByteArray), skLd (rs ++ qs) x l = match skLd rs x l with
    | none => none
    | some l' => skLd qs (x + rs.length) l'
  | [], qs, x, l => by simp [skLd]
  | r :: rs, qs, x, l => by
    rw [List.cons_append, skLd, skLd, List.length_cons, show x + (rs.length + 1) = x + 1 + rs.length by omega]
    split
    · exact skLd_app rs qs (x + 1) l
    · split
      · exact skLd_app rs qs (x + 1) _
      · rfl
theorem skLd_zero : ∀ (n x : Nat) (l : Nat → List ByteArray), skLd (List.replicate n rc0) x l = some l
  | 0, _, _ => rfl
  | n + 1, x, l => by
    rw [List.replicate_succ, skLd, if_pos (show rc0.q = 0 from rfl)]
    exact skLd_zero n (x + 1) l
/-- Behind a gap there are no records. -/
theorem skLd_gap : ∀ (rs : List Rc) (x : Nat) (l l' : Nat → List ByteArray), cnt l < x → skLd rs x l = some l' → l' = l ∧ ∀ r ∈ rs, r.q = 0
  | [], x, l, l', _, h => by cases h; exact ⟨rfl, fun r hr => by cases hr⟩
  | r :: rs, x, l, l', hx, h => by
    rw [skLd] at h
    split at h
    · rename_i h0
      obtain ⟨e, i⟩ := skLd_gap rs (x + 1) l l' (by omega) h
      exact ⟨e, fun r' hr => by
        cases hr with
        | head => exact h0
        | tail _ hr => exact i r' hr⟩
    · rw [if_neg (by omega)] at h
      cases h
/-- The records come first, noughts behind them. -/
theorem skLd_some : ∀ (rs : List Rc) (x : Nat) (l l' : Nat → List ByteArray), cnt l = x → (∀ r ∈ rs, r.s < 3) → skLd rs x l = some l' →
    ∃ n, n ≤ rs.length ∧ cnt l' = x + n ∧ skLd (rs.take n) x l = some l' ∧ (∀ y, y < n → ∃ r, rs[y]? = some r ∧ r.q ≠ 0) ∧ ∀ y, n ≤ y → ∀ r, rs[y]? = some r → r.q = 0
  | [], x, l, l', hx, _, h => by cases h; exact ⟨0, Nat.le_refl _, hx, rfl, fun y hy => by omega, fun y _ r hr => by simp at hr⟩
  | r :: rs, x, l, l', hx, hs, h => by
    have h00 := h
    rw [skLd] at h
    split at h
    · rename_i h0
      obtain ⟨e, i⟩ := skLd_gap rs (x + 1) l l' (by omega) h
      subst e
      refine ⟨0, Nat.zero_le _, hx, rfl, fun y hy => by omega, fun y _ r' hr => ?_⟩
      cases y with
      | zero => simp at hr; rw [← hr]; exact h0
      | succ y => exact i r' (List.mem_of_getElem? (by simpa using hr))
    · rename_i h0
      split at h
      · rename_i h1
        obtain ⟨n, n1, n2, n3, n4, n5⟩ := skLd_some rs (x + 1) _ l' (by rw [cnt_add _ _ _ (hs r (.head _)), hx]) (fun r' hr => hs r' (.tail _ hr)) h
        refine ⟨n + 1, by simp; omega, by omega, ?_, fun y hy => ?_, fun y hy r' hr => ?_⟩
        · rw [List.take_succ_cons, skLd, if_neg h0, if_pos h1]
          exact n3
        · cases y with
          | zero => exact ⟨r, rfl, h0⟩
          | succ y => exact n4 y (by omega)
        · cases y with
          | zero => omega
          | succ y => exact n5 y (by omega) r' (by simpa using hr)
      · cases h
/-- A sink's disk in order. -/
structure SkDisk (L : List UInt8) (op ct hd e : Nat) (logs : Nat → List ByteArray) : Prop where
  ok : DiskOk L op ct hd (fun i => if i = 0 then e else 0) 122
  rcs : ∃ ord : List Rc, ord.length = cnt logs ∧ cnt logs ≤ 120 ∧ (∀ r ∈ ord, r.fits) ∧ skLd ord 0 (fun _ => []) = some logs ∧ ∀ x, x < 120 → RecAt (sec L (2 + x)) op (ord.getD x rc0)
theorem SkDisk.loads {L : List UInt8} {op ct hd e : Nat} {logs : Nat → List ByteArray} (h : SkDisk L op ct hd e logs) (hop : op ≤ 1073741824) : skLoad L = some { epoch := e, logs := logs, held := [] } := by
  obtain ⟨ord, o1, o2, o3, o4, o5⟩ := h.rcs
  obtain ⟨c, ho⟩ := h.ok.opens hop (fun x => ord.getD x rc0) (fun x hx => o5 x hx)
  have hrs : (List.range (122 - 2)).map (fun x => ord.getD x rc0) = ord ++ List.replicate (120 - ord.length) rc0 := by
    apply List.ext_getElem?
    intro i
    rw [List.getElem?_map, List.getElem?_append, List.getElem?_replicate]
    by_cases hi : i < 120
    · rw [List.getElem?_range (by omega)]
      by_cases hl : i < ord.length
      · rw [if_pos hl]
        simp [List.getD_eq_getElem?_getD, hl]
      · rw [if_neg hl, if_pos (by omega)]
        simp [List.getD_eq_getElem?_getD, List.getElem?_eq_none (by omega : ord.length ≤ i)]
    · rw [List.getElem?_eq_none (by simp; omega), if_neg (by omega), if_neg (by omega)]
      rfl
  unfold skLoad
  rw [ho]
  simp only
  rw [if_pos (by simp), hrs, skLd_app, o4]
  simp only
  rw [skLd_zero]
  simp
/-- A record is committed. -/
theorem SkDisk.commit {L : List UInt8} {op ct hd e : Nat} {logs : Nat → List ByteArray} (h : SkDisk L op ct hd e logs) {s : Nat} {b : ByteArray} (hs : s < 3) (hb : b.size ≤ 20) (hr : cnt logs < 120) (hct : ct + 1 < 18446744073709551616) :
    SkDisk (setSec L (2 + cnt logs) (sealR op (ct + 1) ⟨s, (logs s).length + 1, b⟩)) op (ct + 1) hd e (logAdd logs s b) := by
  obtain ⟨ord, o1, o2, o3, o4, o5⟩ := h.rcs
  have hS : (sealR op (ct + 1) ⟨s, (logs s).length + 1, b⟩).length = 64 := length_sealR hb
  have hq : (logs s).length ≤ cnt logs := by
    unfold cnt
    obtain rfl | rfl | rfl : s = 0 ∨ s = 1 ∨ s = 2 := by omega
    all_goals omega
  have hf : Rc.fits ⟨s, (logs s).length + 1, b⟩ := ⟨hs, by show 1 ≤ (logs s).length + 1; omega, by show (logs s).length + 1 ≤ _; omega, hb⟩
  refine ⟨h.ok.record hS (by omega) hct, ord ++ [⟨s, (logs s).length + 1, b⟩], by rw [cnt_add _ _ _ hs]; simp [o1], by rw [cnt_add _ _ _ hs]; omega, ?_, ?_, fun x hx => ?_⟩
  · intro r hr
    rw [List.mem_append] at hr
    rcases hr with hr | hr
    · exact o3 r hr
    · rw [List.mem_singleton] at hr
      rw [hr]
      exact hf
  · rw [skLd_app, o4]
    simp only
    rw [skLd, if_neg (by show ¬ (logs s).length + 1 = 0; omega), if_pos ⟨by omega, rfl⟩, skLd]
  · have hl := h.ok.len
    by_cases e : x = cnt logs
    · subst e
      rw [sec_set hS (by omega), List.getD_eq_getElem?_getD, List.getElem?_append_right (by omega), o1, Nat.sub_self]
      exact .inr ⟨op, ct + 1, h.ok.op1, Nat.le_refl _, h.ok.opm, hct, hf, rfl⟩
    · rw [sec_other hS (by omega) (by omega)]
      have : (ord ++ [Rc.mk s ((logs s).length + 1) b]).getD x rc0 = ord.getD x rc0 := by
        rw [List.getD_eq_getElem?_getD, List.getD_eq_getElem?_getD, List.getElem?_append]
        split
        · rfl
        · rw [List.getElem?_eq_none (by simp; omega), List.getElem?_eq_none (by omega)]
      rw [this]
      exact o5 x hx
/-- Another Epoch is written. -/
theorem SkDisk.epoch {L : List UInt8} {op ct hd e : Nat} {logs : Nat → List ByteArray} (h : SkDisk L op ct hd e logs) {e' : Nat} (he : e' ≤ 2147483647) (hct : ct + 1 < 18446744073709551616) :
    SkDisk (setSec L (1 - hd) (sealH ⟨op, ct + 1, e', 0, 0⟩)) op (ct + 1) (1 - hd) e' logs := by
  obtain ⟨ord, o1, o2, o3, o4, o5⟩ := h.rcs
  have hl := h.ok.len
  refine ⟨h.ok.numbers (g' := fun i => if i = 0 then e' else 0) (fun i _ => by show (if i = 0 then e' else 0) ≤ _; split <;> omega) hct, ord, o1, o2, o3, o4, fun x hx => ?_⟩
  rw [sec_other (length_sealH _) (by omega) (by omega)]
  exact o5 x hx
theorem skLoad_some {L : List UInt8} {a : Sk} (h : skLoad L = some a) : ∃ hd at' rs, openSt L = some (hd, at', rs) ∧ hd.b = 0 ∧ hd.d = 0 ∧ a.epoch = hd.a ∧ a.held = [] ∧ skLd rs 0 (fun _ => []) = some a.logs := by
  unfold skLoad at h
  cases ho : openSt L with
  | none => rw [ho] at h; cases h
  | some p =>
    obtain ⟨hd, at', rs⟩ := p
    rw [ho] at h
    simp only at h
    split at h
    · rename_i h0
      cases hl : skLd rs 0 (fun _ => []) with
      | none => rw [hl] at h; cases h
      | some l => rw [hl] at h; cases h; exact ⟨hd, at', rs, rfl, h0.1, h0.2, rfl, rfl, hl⟩
    · cases h
/-- A disk of any bytes that is opened is in order. -/
theorem skDisk_opened {L : List UInt8} {a : Sk} {hd : Hd} {at' : Nat} {rs : List Rc} (ho : openSt L = some (hd, at', rs)) (hb : hd.b = 0) (hd0 : hd.d = 0) (hl : skLd rs 0 (fun _ => []) = some a.logs) (hlen : L.length = 7808) :
    SkDisk (openL L hd at') (hd.o + 1) 1 (1 - at') hd.a a.logs := by
  obtain ⟨hn, hr⟩ := openSt_some ho
  rw [hlen] at hr
  obtain ⟨r1, r2⟩ := recsFrom_some _ _ hr
  have hat : ∀ x, x < 120 → RecAt (sec L (2 + x)) (hd.o + 1) (rs.getD x rc0) := fun x hx => by
    obtain ⟨k1, k2⟩ := r2 x hx
    rw [Nat.zero_add] at k1 k2
    rw [List.getD_eq_getElem?_getD, k2]
    exact (recAt_ok k1).up (by omega)
  have hsm : ∀ r ∈ rs, r.s < 3 := fun r hr => by
    obtain ⟨x, hx, e⟩ := List.mem_iff_getElem.1 hr
    obtain ⟨k1, k2⟩ := r2 x (by omega)
    rw [List.getElem?_eq_getElem hx, e] at k2
    cases k2
    exact (recOk_small k1).1
  obtain ⟨n, n1, n2, n3, n4, n5⟩ := skLd_some rs 0 _ _ (by rfl) hsm hl
  have hok := opened_ok hn (m := 122) (by omega) (by omega)
  refine ⟨?_, rs.take n, by simp; omega, by omega, fun r hr => ?_, n3, fun x hx => ?_⟩
  · have : hd.num = fun i => if i = 0 then hd.a else 0 := by
      funext i
      unfold Hd.num
      split
      · rfl
      · split
        · exact hb
        · exact hd0
    rw [← this]
    exact hok
  · obtain ⟨x, hx, e⟩ := List.mem_iff_getElem.1 hr
    have hxn : x < n := by simp at hx; omega
    obtain ⟨r', h1, h2⟩ := n4 x hxn
    have h3 : rs.getD x rc0 = r' := by rw [List.getD_eq_getElem?_getD, h1]; rfl
    have h4 : r = r' := by
      rw [← e]
      simp only [List.getElem_take]
      rw [List.getElem?_eq_getElem (by omega)] at h1
      cases h1
      rfl
    have := hat x (by omega)
    rw [h3, ← h4] at this
    rcases this with ⟨_, e0⟩ | ⟨_, _, _, _, _, _, hf, _⟩
    · rw [← h4, e0] at h2
      exact absurd rfl h2
    · exact hf
  · rw [openL_other (m := 122) (by omega) (by omega) (by omega)]
    have h0 := hat x hx
    by_cases hxn : x < n
    · have : (rs.take n).getD x rc0 = rs.getD x rc0 := by
        rw [List.getD_eq_getElem?_getD, List.getD_eq_getElem?_getD, List.getElem?_take, if_pos hxn]
      rw [this]
      exact h0
    · have : (rs.take n).getD x rc0 = rc0 := by
        rw [List.getD_eq_getElem?_getD, List.getElem?_eq_none (by simp; omega)]
        rfl
      rw [this]
      have hq := n5 x (by omega) (rs.getD x rc0) (by rw [List.getD_eq_getElem?_getD, List.getElem?_eq_getElem (by omega)]; rfl)
      rcases h0 with ⟨e1, _⟩ | ⟨_, _, _, _, _, _, hf, _⟩
      · exact .inl ⟨e1, rfl⟩
      · have := hf.2.1; omega
end Mod
end Go.Proofs.YtamafdcnbcoegaaGreat
namespace Go.Proofs.YtamafdcnbcoegaaGreat
open Go.RowKit

/-- A row of one string, in a block of its own. -/
def OneT (B : Nat) (b : ByteArray) (v : Value) (w : World) : Prop := ∃ g, v = .slice (some ⟨g, 0, none⟩) 1 1 ∧ B ≤ g ∧ w.heap[g]? = some (.cells #[.string b] 9 (0, 0))
theorem stable_oneT (B : Nat) (b : ByteArray) : Stable (OneT B b) := fun _ _ _ h hb => by
  obtain ⟨g, e, h1, h2⟩ := h
  exact ⟨g, e, h1, (hb.block g (lt_of_block h2)).trans h2⟩
theorem stableF_oneT {B : Nat} {b : ByteArray} {E : Nat → Prop} (hE : ∀ k, E k → k < B) : StableF E (OneT B b) := fun _ _ _ h hF => by
  obtain ⟨g, e, h1, h2⟩ := h
  exact ⟨g, e, h1, hF.blk h2 (fun e => by have := hE _ e; omega)⟩
/-- The row of strings that is written to, behind it. -/
def RowT (w0 : World) (fv : Value) (n : Nat) (xs : List Value) (v : Value) (w : World) : Prop := RowO w 9 1 v n xs ∧ Loc w0 fv v ∧ w0.heap.size ≤ w.heap.size
theorem stable_rowT (w0 : World) (fv : Value) (n : Nat) (xs : List Value) : Stable (RowT w0 fv n xs) := fun _ _ _ h hb =>
  ⟨h.1.keep (fun g hg => hb.block g (h.1.lt g hg)), h.2.1, Nat.le_trans h.2.2 hb.size⟩
theorem stableF_rowT {w0 : World} {fv : Value} {n : Nat} {xs : List Value} {E : Nat → Prop} (hE : ∀ k, E k → k < w0.heap.size ∧ fv.ownBlock ≠ some k) : StableF E (RowT w0 fv n xs) := fun _ _ _ h hF =>
  ⟨h.1.far hF (fun g hg e => by
    obtain ⟨h1, h2⟩ := hE g e
    rcases h.2.1 with h3 | h3 | ⟨k, h3, h4⟩
    · rw [h3] at hg; cases hg
    · rw [h3] at hg; exact h2 hg
    · rw [h3] at hg; cases hg; omega), h.2.1, Nat.le_trans h.2.2 hF.size⟩
theorem eq_rec_no (s q : Nat) (b : ByteArray) (hq : q ≠ 0) (w : World) : (binOp .eql 155 (.agg #[.int .i64 s, .int .i64 q, .string b]) (.agg #[.int .i64 0, .int .i64 0, .string ⟨#[]⟩])).run Tryz.prog w = .ok (.bool false) w := by
  have hne : ((q : Int) == 0) = false := by simp; omega
  rw [run_eql_struct, run_equalIn_struct w 9999 155 _ _ (by kernel_rfl) (by kernel_rfl)]
  cases hs : ((s : Int) == 0) <;> simp [go_sem, hne, hs]
theorem eq_rec_yes (w : World) : (binOp .eql 155 (.agg #[.int .i64 0, .int .i64 0, .string ⟨#[]⟩]) (.agg #[.int .i64 0, .int .i64 0, .string ⟨#[]⟩])).run Tryz.prog w = .ok (.bool true) w := by kernel_rfl
/-- A sink while its records are loaded. -/
def LdAt (w x : World) (p e s : Nat) (logs : Nat → List ByteArray) : Prop :=
  ∃ arr lv, KsAt x p e logs (fun _ => []) arr s lv (fun _ => .slice none 0 0) (fun _ => .map none) (.slice none 0 0) ∧ Far (fun k => k = p) w x ∧ ∀ i, i < 3 → ∀ g, (lv i).ownBlock = some g → w.heap.size ≤ g
theorem LdAt.below {w x y : World} {p e s : Nat} {logs : Nat → List ByteArray} (h : LdAt w x p e s logs) (hb : Below x.heap.size x y) : LdAt w y p e s logs := by
  obtain ⟨arr, lv, h1, h2, h3⟩ := h
  exact ⟨arr, lv, h1.far (far_below (E := fun _ => False) hb) (fun _ _ h => h), h2.trans (far_below (E := fun _ => False) hb) (fun _ _ h => h.elim), h3⟩
def newArrE (s e : Nat) (rv : Value) : Array Value := #[ptrTo s, .int .i64 e, .slice none 0 0, .slice none 0 0, .map none, .slice none 0 0, .slice none 0 0, .map none, .slice none 0 0, .slice none 0 0, .map none, rv]
theorem ldAt_new {w : World} {p e s : Nat} (hb : w.heap[p]? = some (.cells (newArrE s e (.slice none 0 0)) 176 (0, 0))) (he : e ≤ 2147483647) : LdAt w w p e s (fun _ => []) := by
  have h3 : ∀ i, i < 3 → (newArrE s e (.slice none 0 0))[2 + i * 3]? = some (.slice none 0 0) ∧ (newArrE s e (.slice none 0 0))[2 + i * 3 + 1]? = some (.slice none 0 0) ∧ (newArrE s e (.slice none 0 0))[2 + i * 3 + 2]? = some (.map none) := by
    intro i hi
    obtain rfl | rfl | rfl : i = 0 ∨ i = 1 ∨ i = 2 := by omega
    all_goals exact ⟨rfl, rfl, rfl⟩
  refine ⟨_, fun _ => .slice none 0 0, ⟨hb, rfl, rfl, rfl, fun i hi => (h3 i hi).1, fun i hi => (h3 i hi).2.1, fun i hi => (h3 i hi).2.2, rfl, fun i hi => rowO_nil _ _ _, fun i hi => shelfIs_nil _, (fun i hi x hx => by cases hx), (fun i j _ _ _ g hg => by cases hg), fun i j _ _ _ k hk => ?_, by simp, he⟩, Far.refl _ _, fun i _ g hg => by cases hg⟩
  rcases hk with h | h <;> cases h
theorem skLd_step {rs : List Mod.Rc} {j : Nat} {r : Mod.Rc} {l : Nat → List ByteArray} (hr : rs[j]? = some r) (h : Mod.skLd (rs.take j) 0 (fun _ => []) = some l) :
    Mod.skLd (rs.take (j + 1)) 0 (fun _ => []) = if r.q = 0 then some l else if j = Mod.cnt l ∧ r.q = (l r.s).length + 1 then some (Mod.logAdd l r.s r.b) else none := by
  obtain ⟨hj, e⟩ := List.getElem?_eq_some_iff.1 hr
  rw [List.take_succ_eq_append_getElem hj, e, Mod.skLd_app, h]
  simp only [List.length_take]
  rw [show 0 + min j rs.length = j by omega]
  rfl
theorem skLd_bad {rs : List Mod.Rc} {j : Nat} (h : Mod.skLd (rs.take j) 0 (fun _ => []) = none) : Mod.skLd rs 0 (fun _ => []) = none := by
  have := Mod.skLd_app (rs.take j) (rs.drop j) 0 (fun _ => [])
  rw [List.take_append_drop, h] at this
  exact this

set_option maxRecDepth 100000 in
set_option maxHeartbeats 8000000 in
theorem sinkLoad_any {w : World} {p e s g cap m : Nat} {rs : List Mod.Rc} (hp : w.heap[p]? = some (.cells (newArrE s e (.slice none 0 0)) 176 (0, 0))) (hrow : w.ownsRow 0 155 3 (.slice (some ⟨g, 0, none⟩) m cap) m (rcRow rs)) (hml : rs.length = m) (hm : m ≤ 120)
    (hrs : ∀ r ∈ rs, r = Mod.rc0 ∨ r.fits) (he : e ≤ 2147483647) :
    Calls Tryz.prog 108 #[ptrTo p, .slice (some ⟨g, 0, none⟩) m cap] w fun r w' => r = .returned (.bool (Mod.skLd rs 0 (fun _ => [])).isSome) ∧ Far (fun k => k = p) w w' ∧ ∀ logs, Mod.skLd rs 0 (fun _ => []) = some logs → LdAt w w' p e s logs := by
  have hgp : 0 < m → g ≠ p := fun _ e => by
    have := (RowO.of_own hrow).ne hp (by decide)
    exact this (by rw [e]; rfl)
  have hc : ∀ j r, rs[j]? = some r → w.cell? ⟨g, j * 3, none⟩ = some (.int .i64 r.s) ∧ w.cell? ⟨g, j * 3 + 1, none⟩ = some (.int .i64 r.q) ∧ w.cell? ⟨g, j * 3 + 2, none⟩ = some (.string r.b) := by
    intro j r hj
    have hjm := (List.getElem?_eq_some_iff.1 hj).1
    obtain ⟨ad, cap', e, _, _, hcl⟩ := (RowO.of_own hrow).shape
    obtain ⟨g', o', e2, hcl⟩ := hcl (by omega)
    rw [e2] at e
    injection e with e
    injection e with e
    injection e with e e'
    subst e e'
    have hlen := length_rcRow rs
    have := rcRow_get rs j r hj
    refine ⟨?_, ?_, ?_⟩
    · have h := hcl (j * 3) (by omega); rw [Nat.zero_add] at h; rw [h]; exact this.1
    · have h := hcl (j * 3 + 1) (by omega); rw [Nat.zero_add] at h; rw [h]; exact this.2.1
    · have h := hcl (j * 3 + 2) (by omega); rw [Nat.zero_add] at h; rw [h]; exact this.2.2
  have HC := hide hc
  have HGP := hide hgp
  have hpl := lt_of_block hp
  have HP := hide (ldAt_new hp he)
  have HRS := hide hrs
  have HML := hide hml
  clear hrow hc hgp hp hrs hml he
  unfold ptrTo
  go_enter Tryz.func108, Tryz.ntmps108
  go_wp2
  go_loopw [5, 6, 7, 10] (fun _ _ _ i wr => ∃ j : Nat, j ≤ m ∧ i = .int .i64 j ∧ ∃ logs, Mod.skLd (rs.take j) 0 (fun _ => []) = some logs ∧ LdAt w wr p e s logs) (fun _ _ _ i _ => m - (intOf i).toNat)
  case atStart => exact ⟨0, by omega, rfl, _, rfl, unhide HP⟩
  case round =>
    obtain ⟨j, hj, rfl, logs, hsk, hL⟩ := hrel
    clear HP
    by_cases hlt : j < m
    · obtain ⟨r, hr⟩ : ∃ r, rs[j]? = some r := ⟨_, List.getElem?_eq_getElem (by have := unhide HML; omega)⟩
      obtain ⟨e0, e1, e2⟩ := (unhide HC) j r hr
      have hst := skLd_step hr hsk
      have hrf := (unhide HRS) r (List.mem_of_getElem? hr)
      have hgl : g < w.heap.size := World.block_lt_of_cell? _ _ e0
      have hbk : wr.heap[g]? = w.heap[g]? := by obtain ⟨_, _, _, hF, _⟩ := hL; exact hF.rest g hgl ((unhide HGP) (by omega))
      have y0 := (World.cell?_of_block (w := w) hbk : wr.cell? ⟨g, j * 3, none⟩ = _).trans e0
      have y1 := (World.cell?_of_block (w := w) hbk : wr.cell? ⟨g, j * 3 + 1, none⟩ = _).trans e1
      have y2 := (World.cell?_of_block (w := w) hbk : wr.cell? ⟨g, j * 3 + 2, none⟩ = _).trans e2
      have HL := hide hL
      have HST := hide hst
      have HR := hide hr
      clear hbk e0 e1 e2 hL hsk hst hr
      obtain ⟨g6, hg6⟩ : ∃ g6, g6 = wr.heap.size := ⟨_, rfl⟩
      have HG6 := hide hg6
      go_upto_region 4 with fail
      rw [← hg6]
      refine wp_world (fun x => x.heap[g6]? = some (.cells #[.int .i64 r.s, .int .i64 r.q, .string r.b] 155 (0, 0)) ∧ g6 < x.heap.size ∧ LdAt w x p e s logs) ?_ ?_
      · rw [hg6]
        exact ⟨heap_alloc_new _ _, by simp, (unhide HL).below ((Below.refl _ _).alloc (Nat.le_refl _) _)⟩
      clear y0 y1 y2 hg6 HL
      rintro x ⟨h6, hg6x, hLx⟩
      have r0 := blk_cell (i := 0) h6
      have r1 := blk_cell (i := 1) h6
      have r2 := blk_cell (i := 2) h6
      simp at r0 r1 r2
      have H6 := hide h6
      have HL := hide hLx
      clear h6 hLx
      by_cases hq0 : r.q = 0
      · have hr0 : r = Mod.rc0 := by
          rcases hrf with h | h
          · exact h
          · have := h.2.1; omega
        have hcmp := eq_rec_yes
        have hnx : Hid (Mod.skLd (rs.take (j + 1)) 0 (fun _ => []) = some logs) := by
          show _ = _
          rw [unhide HST, if_pos hq0]
        subst hr0
        unfold Mod.rc0 at r0 r1 r2
        simp only at r0 r1 r2
        clear HST hq0 hrf
        go_wp2
        go_roundw
        case rel => exact ⟨j + 1, by omega, by go_num, logs, unhide hnx, unhide HL⟩
        case measure => simp [intOf]; omega
      · have hf : r.fits := by
          rcases hrf with h | h
          · rw [h] at hq0; exact absurd rfl hq0
          · exact h
        have hcmp := eq_rec_no r.s r.q r.b hq0
        obtain ⟨hs3, hq1, hqm, hbz⟩ := hf
        have s0 : (0 : Int) ≤ (r.s : Int) := by omega
        have s3 : (r.s : Int) < 3 := by omega
        have HQ := hide (And.intro hq0 (And.intro hq1 (And.intro hqm hbz)))
        clear hq0 hq1 hqm hbz hrf
        go_upto_region 5 with fail
        go_quiet (fail)
        go_upto_region 6 with fail
        refine wp_world (fun y => y.heap[g6]? = some (.cells #[.int .i64 r.s, .int .i64 r.q, .string r.b] 155 (0, 0)) ∧ LdAt w y p e s logs) ⟨unhide H6, (unhide HL).below (below_drewN (Below.refl _ _) _)⟩ ?_
        clear r0 r1 r2 H6 HL hcmp hg6x
        rintro y ⟨h6, hL⟩
        have r1 := blk_cell (i := 1) h6
        have r2 := blk_cell (i := 2) h6
        simp at r1 r2
        have hg6y := lt_of_block h6
        have H6 := hide h6
        have HL := hide hL
        obtain ⟨arr, lv, K, F, N⟩ := hL
        obtain ⟨ad, cap2, hlv, clog⟩ := K.logc hs3
        have hll := K.loglen hs3
        have hcnt : (logs 0).length + (logs 1).length + (logs 2).length ≤ 120 := K.cnt
        have hCM := fun n => hide (committed_any (w := y.drewN n) (K.far (far_drewN (fun _ => False) y n) (fun _ _ h => h)))
        have hNX := fun n => hide (sinkNext_any (y.drewN n) p (2 + r.s * 3) _ cap2 ad clog (by omega))
        have HK := hide (And.intro K (And.intro F (And.intro N hlv)))
        have hcd : Mod.cnt logs = (logs 0).length + (logs 1).length + (logs 2).length := rfl
        clear K F N hlv clog h6
        obtain ⟨cn, hcn⟩ : ∃ cn, cn = (logs 0).length + (logs 1).length + (logs 2).length := ⟨_, rfl⟩
        obtain ⟨nx, hnx⟩ : ∃ nx, nx = (logs r.s).length + 1 := ⟨_, rfl⟩
        rw [← hcn] at hCM hcd hcnt
        rw [← hnx] at hNX
        have HN := hide (And.intro hcd (And.intro hnx hcn))
        clear hcd hcn hnx
        unfold ptrTo at hCM
        by_cases c1 : j = cn
        · have c1' : ((j : Int) != (cn : Int)) = false := by simp [c1]
          by_cases c2 : r.q = nx
          · have c2' : ((r.q : Int) != (nx : Int)) = false := by simp [c2]
            have HCC := hide (And.intro c1 c2)
            clear c1 c2
            go_quiet (first
              | (go_at_call 157; exact Calls.quiet_of_same (unhide (hCM _)))
              | (go_at_call 158; exact Calls.quiet_of_same (unhide (hNX _))))
            go_upto_region 8 with fail
            refine wp_world (fun z => z.heap[g6]? = some (.cells #[.int .i64 r.s, .int .i64 r.q, .string r.b] 155 (0, 0)) ∧ LdAt w z p e s logs) ⟨unhide H6, (unhide HL).below (below_drewN (Below.refl _ _) _)⟩ ?_
            clear r1 r2 H6 HL HK hCM hNX hll hg6y
            rintro z ⟨h6, hL⟩
            obtain ⟨arr, lv, K, F, N⟩ := hL
            obtain ⟨ad, cap2, hlv, clog⟩ := K.logc hs3
            have hll := K.loglen hs3
            have hg6z := lt_of_block h6
            have hpz := lt_of_block K.blk
            have hrow := K.lgs r.s hs3
            have hup := K.lgs r.s hs3 |>.ne K.blk (by decide)
            have hu6 := K.lgs r.s hs3 |>.ne h6 (by decide)
            have hfvl := fun g hg => hrow.lt g hg
            have hp6 : ¬ g6 = p := fun e => by
              have h := K.blk
              rw [← e, h6] at h
              injection h with h
              injection h with _ h _
              exact absurd h (by decide)
            obtain ⟨n0, hn0⟩ : ∃ n0, n0 = (logs r.s).length := ⟨_, rfl⟩
            rw [← hn0] at hlv hll hrow clog
            have HK := hide K
            have HF := hide (And.intro F N)
            have H6 := hide h6
            have HLV := hide hlv
            have HROW := hide hrow
            have HN0 := hide hn0
            clear K F N h6 hlv hrow clog hn0
            refine wp_region_foot (by kernel_rfl)
              [fun v _ => v = .pointer (some ⟨p, 2 + r.s * 3, none⟩), fun v _ => v = .pointer (some ⟨p, 2 + r.s * 3, none⟩), fun v _ => v = .pointer (some ⟨p, 2 + r.s * 3, none⟩), fun v _ => v = .pointer (some ⟨p, 2 + r.s * 3, none⟩), fun v _ => v = .slice ad n0 cap2, fun v _ => v = .pointer (some ⟨g6, 2, none⟩), fun v _ => v = .string r.b, OneT z.heap.size r.b, RowT z (lv r.s) (n0 + 1) (strs (logs r.s) ++ [.string r.b]), fun v _ => v = .pointer (some ⟨p, 2 + r.s * 3, none⟩), fun v _ => v = .pointer (some ⟨p, 2 + r.s * 3, none⟩),
               fun _ u => LdAt w u p e s (Mod.logAdd logs r.s r.b)]
              [[(7, none)], [(7, none)], [(36, some 1)], [(37, some 2)], [(38, some 3)], [(6, none)], [(40, some 5)], [(41, some 6)], [(39, some 4), (42, some 7)], [(35, some 0)], [(44, some 9)], [(45, some 10), (43, some 8)]] [some 35, some 36, some 37, some 38, some 39, some 40, some 41, some 42, some 43, some 44, some 45, none] [false, false, false, false, false, false, false, false, false, false, false, false, false, false, false, false, false, false, false, false, false, false, false, false, false, false, false, false, false, false, false, false, false, false, false, true, true, true, true, true, true, true, true, true, true, true, false]
              [(8, fun k => (lv r.s).ownBlock = some k), (11, fun k => k = p)]
              (by kernel_rfl) (by kernel_rfl) (by kernel_rfl) (by kernel_rfl) (by kernel_rfl) ?_ ?_ ?_ ?_
            · repeat' (first | exact stable_eq _ | exact stable_oneT _ _ | exact stable_rowT _ _ _ _ | exact (fun _ _ _ h hb => h.below hb) | exact trivial | apply And.intro)
            · repeat' (first | exact trivial | exact .inl rfl | exact .inr (.inr (stableF_eq _ _)) | exact .inr (.inr (stableF_oneT (fun g hg => hfvl g hg))) | exact .inr (.inr (stableF_oneT (fun g (hg : g = p) => by omega))) | exact .inr (.inr (stableF_rowT (fun g (hg : g = p) => ⟨by omega, by rw [hg]; exact hup⟩))) | exact .inr (.inl (show depB _ 11 8 = true by decide +kernel)) | apply And.intro)
            · refine ⟨?_, ?_, ?_, ?_, ?_, ?_, ?_, ?_, ?_, ?_, ?_, ?_, trivial⟩
              all_goals
                intro a' y8 hb hf
                have hzz := hb.size
                have HBZ := hide hb
                clear hb
                simp only [PlanFacts, List.getD_cons_zero, List.getD_cons_succ, Array.getD_eq_getD_getElem?] at hf
                try simp at hf
              iterate 4
                · go_simp
                  exact ⟨_, rfl, Far.refl _ _, rfl⟩
              · have d0 := (unhide HBZ).blk (unhide HK).blk (by
                  rintro ⟨q, hq, g1, g2, g3⟩
                  simp at hq
                  rcases hq with rfl | rfl
                  · exact hup g3
                  · exact absurd (show depB _ 11 4 = false from g2) (by decide +kernel))
                have d1 : y8.cell? ⟨p, 2 + r.s * 3, none⟩ = some (.slice ad n0 cap2) := by rw [blk_cell d0, (unhide HK).al r.s hs3, unhide HLV]
                clear d0
                go_simp
                exact ⟨_, rfl, Far.refl _ _, rfl⟩
              · go_simp
                exact ⟨_, rfl, Far.refl _ _, rfl⟩
              · have d0 := (unhide HBZ).blk (unhide H6) (by
                  rintro ⟨q, hq, g1, g2, g3⟩
                  simp at hq
                  rcases hq with rfl | rfl
                  · exact hu6 g3
                  · exact hp6 g3)
                have d1 : y8.cell? ⟨g6, 2, none⟩ = some (.string r.b) := blk_cell (i := 2) d0
                clear d0
                go_simp
                exact ⟨_, rfl, Far.refl _ _, rfl⟩
              · go_simp
                exact ⟨_, rfl, far_below ((Below.refl _ _).alloc (Nat.le_refl _) _), _, rfl, hzz, heap_alloc_new y8 _⟩
              · have hoz := (unhide HROW).far (unhide HBZ) (by
                  rintro g hg ⟨q, hq, g1, g2, g3⟩
                  simp at hq
                  rcases hq with rfl | rfl
                  · exact g1 rfl
                  · have g3 : g = p := g3
                    exact hup (by rw [hg, g3]))
                obtain ⟨g, hg, hgB, hgh⟩ := hf.2
                have hoz2 : RowO y8 9 1 (.slice ad n0 cap2) n0 (strs (logs r.s)) := by rw [← unhide HLV]; exact hoz
                refine step_app_o rfl (.tmp 39) (.tmp 42) 45 rfl 9 _ 1 16 Tryz.underlying45 infoStr rfl (.slice ad n0 cap2) n0 (strs (logs r.s)) hoz2 (by simp [Act.eval, hf]) ⟨g, 0, none⟩ 1 1 [.string r.b] (by simp [Act.eval, hg]) rfl ?_ (by intro u hu; simp at hu; subst hu; rfl) (by omega) (by omega) (by omega) ?_
                · intro k u hk
                  rw [add_mk, blk_cell hgh, Nat.zero_add]
                  simpa using hk
                · intro v' w' g1 g2
                  have hgr := g2.grown
                  rw [← unhide HLV] at hgr g2
                  exact ⟨v', rfl, footOf_of (.head _) (far_grown hgr), g1, loc_app hzz g2, Nat.le_trans hzz hgr.size⟩
              · go_simp
                exact ⟨_, rfl, Far.refl _ _, rfl⟩
              · go_simp
                exact ⟨_, rfl, Far.refl _ _, rfl⟩
              · have hFz : Far (fun k => (lv r.s).ownBlock = some k) z y8 := (unhide HBZ).mono (by
                  rintro k _ ⟨q, hq, g1, g2, g3⟩
                  simp at hq
                  rcases hq with rfl | rfl
                  · exact g3
                  · exact absurd rfl g1)
                have d0 := hFz.blk (unhide HK).blk hup
                have f1 : y8.frozen? ⟨p, 2 + r.s * 3, none⟩ = false := blk_free d0
                have d1 : y8.cell? ⟨p, 2 + r.s * 3, none⟩ = some (.slice ad n0 cap2) := by rw [blk_cell d0, (unhide HK).al r.s hs3, unhide HLV]
                obtain ⟨hv41, hrw⟩ := hf
                obtain ⟨ad3, cap3, hv39, _⟩ := hrw.1.shape
                have HRW := hide hrw
                have HFZ := hide hFz
                clear hrw d0 hFz
                rw [hv39] at HRW
                go_simp
                refine ⟨footOf_of (.tail _ (.head _)) (far_set y8 p (2 + r.s * 3) _), ?_⟩
                obtain ⟨R1, R2, _⟩ := unhide HRW
                have hF2 := (unhide HF).1
                have hN2 := (unhide HF).2
                have hroom : (logs 0).length + (logs 1).length + (logs 2).length < 120 := by
                  have h1 := (unhide HN).2.2
                  have h2 := (unhide HCC).1
                  omega
                have hkl := ksAt_log (unhide HK) r.s hs3 r.b (.slice ad3 (n0 + 1) cap3) (unhide HFZ) (by rw [← unhide HN0, show strs (logs r.s ++ [r.b]) = strs (logs r.s) ++ [.string r.b] by simp [strs]]; exact R1) R2 hroom
                have hF3 : Far (fun k => k = p) w y8 := hF2.trans (unhide HFZ) (fun k hk h => absurd (hN2 r.s hs3 k h) (by omega))
                refine ⟨_, _, hkl, hF3.trans (far_set y8 p (2 + r.s * 3) _) (fun _ _ h => h), fun i hi g hg => ?_⟩
                split at hg
                · rcases R2 with h3 | h3 | ⟨k, h3, h4⟩
                  · rw [h3] at hg; cases hg
                  · rw [h3] at hg; exact hN2 r.s hs3 g hg
                  · rw [h3] at hg; cases hg
                    have := hF2.size
                    omega
                · exact hN2 i hi g hg
            · intro f3 z3 hF3 hwd
              have hput := hwd.2.2.2.2.2.2.2.2.2.2.2.1
              have HP3 := hide hput
              clear hput hwd hF3
              simp only [mergeT]
              generalize f3 35 = v35
              generalize f3 36 = v36
              generalize f3 37 = v37
              generalize f3 38 = v38
              generalize f3 39 = v39
              generalize f3 40 = v40
              generalize f3 41 = v41
              generalize f3 42 = v42
              generalize f3 43 = v43
              generalize f3 44 = v44
              generalize f3 45 = v45
              go_wp2
              go_roundw
              case rel =>
                refine ⟨j + 1, by omega, by go_num, _, ?_, unhide HP3⟩
                rw [unhide HST, if_neg (unhide HQ).1, if_pos ⟨by rw [(unhide HN).1]; exact (unhide HCC).1, by rw [(unhide HCC).2]; exact (unhide HN).2.1⟩]
              case measure => simp [intOf]; omega
          · have c2' : ((r.q : Int) != (nx : Int)) = true := by simp; omega
            have hbad : Hid (Mod.skLd rs 0 (fun _ => []) = none) := by
              refine hide (skLd_bad (j := j + 1) ?_)
              rw [unhide HST, if_neg (unhide HQ).1, if_neg (fun h => c2 (by rw [h.2, (unhide HN).2.1]))]
            clear c1 c2
            go_quiet (first
              | (go_at_call 157; exact Calls.quiet_of_same (unhide (hCM _)))
              | (go_at_call 158; exact Calls.quiet_of_same (unhide (hNX _))))
            go_wp2
            go_ret
            refine ⟨ret_b (by rw [unhide hbad]; rfl), (unhide HK).2.1.trans (far_drewN (fun _ => False) y _) (fun _ _ h => h.elim), fun l h => ?_⟩
            rw [unhide hbad] at h
            cases h
        · have c1' : ((j : Int) != (cn : Int)) = true := by simp; omega
          have hbad : Hid (Mod.skLd rs 0 (fun _ => []) = none) := by
            refine hide (skLd_bad (j := j + 1) ?_)
            rw [unhide HST, if_neg (unhide HQ).1, if_neg (fun h => c1 (by rw [h.1, (unhide HN).1]))]
          clear c1
          go_quiet (first
            | (go_at_call 157; exact Calls.quiet_of_same (unhide (hCM _)))
            | (go_at_call 158; exact Calls.quiet_of_same (unhide (hNX _))))
          go_wp2
          go_ret
          refine ⟨ret_b (by rw [unhide hbad]; rfl), (unhide HK).2.1.trans (far_drewN (fun _ => False) y _) (fun _ _ h => h.elim), fun l h => ?_⟩
          rw [unhide hbad] at h
          cases h
    · have hjm : j = m := by omega
      have hall : Mod.skLd rs 0 (fun _ => []) = some logs := by
        rw [← hsk, List.take_of_length_le (by have := unhide HML; omega)]
      have HALL := hide hall
      have HL := hide hL
      clear hall hsk hL hjm
      go_wp2
      go_ret
      refine ⟨ret_b (by rw [unhide HALL]; rfl), ?_, fun l h => ?_⟩
      · obtain ⟨_, _, _, F, _⟩ := unhide HL
        exact F
      · rw [unhide HALL] at h
        cases h
        exact unhide HL
end Go.Proofs.YtamafdcnbcoegaaGreat
namespace Go.Proofs.YtamafdcnbcoegaaGreat
open Go.RowKit

theorem LdAt.behind {w x y : World} {p e s : Nat} {logs : Nat → List ByteArray} (h : LdAt x y p e s logs) (hb : Below w.heap.size w x) : LdAt w y p e s logs := by
  obtain ⟨arr, lv, h1, h2, h3⟩ := h
  exact ⟨arr, lv, h1, (far_below (E := fun k => k = p) hb).trans h2 (fun _ _ h => h), fun i hi g hg => Nat.le_trans hb.size (h3 i hi g hg)⟩
/-- A store that was just opened. -/
def newStv (L : List UInt8) (h : Mod.Hd) (at' : Nat) : Mod.Stv := ⟨h.o + 1, 1, 1 - at', ⟨Mod.openL L h at', 0, false⟩⟩
theorem newStv_eq (L : List UInt8) (h : Mod.Hd) (at' : Nat) : ((⟨h.o + 1, 0, at', ⟨L, 0, false⟩⟩ : Mod.Stv).putNumbers h.a h.b h.d).2 = newStv L h at' := by
  unfold Mod.Stv.putNumbers Mod.Dk.put newStv Mod.openL Mod.sealH
  simp [Mod.Stv.next]
theorem rs_fits {L : List UInt8} {last n : Nat} {rs : List Mod.Rc} (h : Mod.recsFrom L last 0 n = some rs) : ∀ r ∈ rs, r = Mod.rc0 ∨ r.fits := by
  intro r hr
  obtain ⟨h1, h2⟩ := Mod.recsFrom_some n 0 h
  obtain ⟨x, hx, e⟩ := List.mem_iff_getElem.1 hr
  obtain ⟨k1, k2⟩ := h2 x (by omega)
  rw [List.getElem?_eq_getElem hx, e] at k2
  cases k2
  rcases Mod.recAt_ok k1 with ⟨_, e0⟩ | ⟨_, _, _, _, _, _, hf, _⟩
  · exact .inl e0
  · exact .inr hf
theorem pkAt_ld {w x : World} {p e s dp : Nat} {logs : Nat → List ByteArray} {dlv duv rv : Value} {st : Mod.Stv} (h : LdAt w x p e s logs) (hs : StAt x s dp st dlv duv) (hl : st.dk.bytes.length = 7808) (hn : ∀ k, StU s dp dlv duv k → k ≠ p)
    {y : World} (hy : y = x.setCell ⟨p, 11, none⟩ rv) {R : Obj} (hr : RowO (y.alloc R) 179 2 rv 2 (rulesOf p)) :
    ∃ c, PkAt (y.alloc R) p e logs (fun _ => []) st c ∧ (∀ k, PkU p c k → k = p ∨ w.heap.size ≤ k ∨ StU s dp dlv duv k ∨ rv.ownBlock = some k) := by
  obtain ⟨arr, lv, K, F, N⟩ := h
  subst hy
  have hset := far_set x p 11 rv
  have hba : Below (x.setCell ⟨p, 11, none⟩ rv).heap.size (x.setCell ⟨p, 11, none⟩ rv) ((x.setCell ⟨p, 11, none⟩ rv).alloc R) := (Below.refl _ _).alloc (Nat.le_refl _) _
  have hF2 : Far (fun k => k = p) x ((x.setCell ⟨p, 11, none⟩ rv).alloc R) := hset.trans (far_below (E := fun _ => False) hba) (fun _ _ h => h.elim)
  have hget : ∀ j, j ≠ 11 → (arr.setIfInBounds 11 rv)[j]? = arr[j]? := fun j hj => Array.getElem?_setIfInBounds_ne (fun e => hj e.symm)
  refine ⟨⟨arr.setIfInBounds 11 rv, s, dp, lv, fun _ => .slice none 0 0, fun _ => .map none, rv, dlv, duv⟩, ⟨⟨?_, by simpa using K.sz, ?_, ?_, ?_, ?_, ?_, ?_, ?_, fun i hi => shelfIs_nil _, K.are, K.apl, K.aps, K.cnt, K.ep⟩, ?_, hr, hl⟩, ?_⟩
  · exact (hba.block p (by simp; exact lt_of_block K.blk)).trans (blk_set K.blk)
  · rw [hget _ (by omega)]; exact K.a0
  · rw [hget _ (by omega)]; exact K.a1
  · intro i hi; rw [hget _ (by omega)]; exact K.al i hi
  · intro i hi; rw [hget _ (by omega)]; exact K.an i hi
  · intro i hi; rw [hget _ (by omega)]; exact K.am i hi
  · have := K.sz
    simp [this]
  · intro i hi
    exact (K.lgs i hi).far hF2 (fun g hg e => (K.lgs i hi).ne K.blk (by decide) (by rw [hg, e]))
  · exact hs.far hF2 (fun k hk e => hn k hk e)
  · rintro k ((h | ⟨i, hi, h⟩ | ⟨i, hi, h⟩) | h | h)
    · exact .inl h
    · exact .inr (.inl (N i hi k h))
    · rcases h with h | h <;> cases h
    · exact .inr (.inr (.inl h))
    · exact .inr (.inr (.inr h))
end Go.Proofs.YtamafdcnbcoegaaGreat
namespace Go.Proofs.YtamafdcnbcoegaaGreat
open Go.RowKit

/-- A new agent's cells, with numbers. -/
def newAgN (s a b d : Nat) (rv : Value) : Array Value := #[ptrTo s, .int .i64 a, .int .i64 b, .int .i64 d,
  .slice none 0 0, .map none, .slice none 0 0, .map none, .slice none 0 0, .map none, .slice none 0 0, .map none, .slice none 0 0, .map none, .slice none 0 0, .map none, .slice none 0 0, .map none, .slice none 0 0, .map none, .slice none 0 0, .map none,
  .slice none 0 0, .int .i64 0, .bool false, .bool false, rv]
theorem paAt_ld {w x : World} {p s dp : Nat} {g : Nat → Nat} {l : Mod.Ld} {dlv duv rv : Value} {st : Mod.Stv} (h : AgLd w x p s g l) (hs : StAt x s dp st dlv duv) (hl : st.dk.bytes.length = 1664) (hn : ∀ k, StU s dp dlv duv k → k ≠ p)
    {y : World} (hy : y = x.setCell ⟨p, 26, none⟩ rv) {R : Obj} (hr : RowO (y.alloc R) 183 2 rv 3 (agRules p)) :
    ∃ c, PaAt (y.alloc R) p g 0 false false l.free (shOf l) st c ∧ (∀ k, PaU p c k → k = p ∨ w.heap.size ≤ k ∨ StU s dp dlv duv k ∨ rv.ownBlock = some k) := by
  obtain ⟨arr, nv, mv, fv, K, F, N⟩ := h
  subst hy
  have hset := far_set x p 26 rv
  have hba : Below (x.setCell ⟨p, 26, none⟩ rv).heap.size (x.setCell ⟨p, 26, none⟩ rv) ((x.setCell ⟨p, 26, none⟩ rv).alloc R) := (Below.refl _ _).alloc (Nat.le_refl _) _
  have hF2 : Far (fun k => k = p) x ((x.setCell ⟨p, 26, none⟩ rv).alloc R) := hset.trans (far_below (E := fun _ => False) hba) (fun _ _ h => h.elim)
  have hget : ∀ j, j ≠ 26 → (arr.setIfInBounds 26 rv)[j]? = arr[j]? := fun j hj => Array.getElem?_setIfInBounds_ne (fun e => hj e.symm)
  refine ⟨⟨arr.setIfInBounds 26 rv, s, dp, nv, mv, fv, rv, dlv, duv⟩, ⟨⟨?_, by simpa using K.sz, ?_, ?_, ?_, ?_, ?_, ?_, ?_, ?_, ?_, ?_, ?_, K.apf, K.aps⟩, ?_, hr, hl⟩, ?_⟩
  · exact (hba.block p (by simp; exact lt_of_block K.blk)).trans (blk_set K.blk)
  · rw [hget _ (by omega)]; exact K.a0
  · intro i hi; rw [hget _ (by omega)]; exact K.ag i hi
  · intro i hi; rw [hget _ (by omega)]; exact K.an i hi
  · intro i hi; rw [hget _ (by omega)]; exact K.am i hi
  · rw [hget _ (by omega)]; exact K.af
  · rw [hget _ (by omega)]; exact K.at'
  · rw [hget _ (by omega)]; exact K.aw
  · rw [hget _ (by omega)]; exact K.ae
  · have := K.sz
    simp [this]
  · exact K.fr.far hF2 (fun g hg e => K.fr.ne K.blk (by decide) (by rw [hg, e]))
  · intro i hi
    exact (K.shs i hi).far hF2 (fun k hk e => (K.shs i hi).ne K.blk (by decide) (by rw [← e]; exact hk))
  · exact hs.far hF2 (fun k hk e => hn k hk e)
  · rintro k (h | h | h)
    · rcases N k h with h | h
      · exact .inl h
      · exact .inr (.inl h)
    · exact .inr (.inr (.inl h))
    · exact .inr (.inr (.inr h))

set_option maxRecDepth 100000 in
set_option maxHeartbeats 8000000 in
theorem agOpen_some (w : World) (v : Value) (L : List UInt8) (hat : BytesAt w v L) (hL : L.length = 1664) {h : Mod.Hd} {at' : Nat} {rs : List Mod.Rc} (ho : Mod.openSt L = some (h, at', rs)) :
    Calls Tryz.prog 64 #[v] w fun r w' => Mod.ldRes h.num rs = none ∧ r = .returned (.tuple #[.pointer none, .int .i64 2]) ∧ Below w.heap.size w w' ∨
      ∃ l p c, Mod.ldRes h.num rs = some l ∧ r = .returned (.tuple #[ptrTo p, .int .i64 0]) ∧ PaAt w' p h.num 0 false false l.free (shOf l) (newStv L h at') c ∧ Below w.heap.size w w' ∧ ∀ k, PaU p c k → w.heap.size ≤ k := by
  have hSO := storeOpen_yes w v L 26 hat (by omega) (by omega) (by omega) ho
  rw [newStv_eq] at hSO
  obtain ⟨hne, hrf⟩ := Mod.openSt_some ho
  have hfit := rs_fits hrf
  have hrl : rs.length = 24 := by
    have := (Mod.recsFrom_some _ _ hrf).1
    rw [this, hL]
  obtain ⟨_, hok, hhd, _⟩ := Mod.newest_some hne
  have hsm := Mod.headIs_small hok
  rw [← hhd] at hsm
  have hnum : ∀ i, i < 3 → h.num i ≤ 2147483647 := fun i _ => by
    unfold Mod.Hd.num
    split
    · omega
    · split <;> omega
  have hlen : (newStv L h at').dk.bytes.length = 1664 := by
    have := (Mod.opened_ok hne (m := 26) (by omega) (by omega)).len
    exact this
  obtain ⟨ad, cap, rfl, hl1, hl2, _⟩ := hat
  obtain ⟨n, hn⟩ : ∃ n, n = L.length := ⟨_, rfl⟩
  rw [← hn] at hL hl1 hl2 hSO ⊢
  subst hL
  generalize newStv L h at' = st at *
  have e0 : h.num 0 = h.a := rfl
  have e1 : h.num 1 = h.b := rfl
  have e2 : h.num 2 = h.d := rfl
  rw [← e0, ← e1, ← e2] at hSO
  generalize h.num = G at *
  have HSO := hide hSO
  have HH := hide (And.intro hfit (And.intro hrl (And.intro hlen hnum)))
  clear hn ho hne hrf hok hhd hsm hSO hfit hrl hlen e0 e1 e2 hnum
  obtain ⟨res, hres⟩ : ∃ res, res = Mod.ldRes G rs := ⟨_, rfl⟩
  rw [← hres]
  obtain ⟨na, hna⟩ : ∃ na, na = G 0 := ⟨_, rfl⟩
  obtain ⟨nb, hnb⟩ : ∃ nb, nb = G 1 := ⟨_, rfl⟩
  obtain ⟨nd, hnd⟩ : ∃ nd, nd = G 2 := ⟨_, rfl⟩
  rw [← hna, ← hnb, ← hnd] at HSO
  have HG := hide (And.intro hna (And.intro hnb hnd))
  clear hna hnb hnd
  unfold ptrTo at *
  go_enter Tryz.func64, Tryz.ntmps64
  go_upto_region 7 with (go_at_call 102; refine (unhide HSO).mono ?_; rintro r y ⟨s, dp, lv, uv, rv, rfl, hST, hSU, hrow, hb⟩; obtain ⟨ra, rc, rfl, _, _, hra⟩ := (RowO.of_own (ownsRow_monoB hrow (Nat.zero_le _))).shape)
  obtain ⟨gr, og, rfl, _⟩ := hra (by omega)
  have hog : og = 0 := by
    rcases hrow with ⟨_, ⟨h, _⟩ | ⟨g', cap', cur', h, _⟩⟩
    · cases h
    · injection h with h; injection h with h; injection h
  subst hog
  clear hra
  obtain ⟨g5, hg5⟩ : ∃ g5, g5 = y.heap.size := ⟨_, rfl⟩
  have HG5 := hide hg5
  rw [← hg5]
  have hgw : w.heap.size ≤ g5 := by have := hb.size; omega
  clear hg5
  refine wp_world (fun x => x.heap[g5]? = some (.cells #[.int .i64 na, .int .i64 nb, .int .i64 nd, .slice (some ⟨gr, 0, none⟩) 24 rc] 187 (0, 0)) ∧ x.heap[g5 + 1]? = some (.cells (newAgN s na nb nd (.slice none 0 0)) 151 (0, 0)) ∧ Below g5 y x) ?_ ?_
  · rw [unhide HG5]
    exact alloc2 _ _ _
  rintro x ⟨h5, h6, hbx⟩
  have hxx := lt_of_block h6
  have y3 := blk_cell (i := 3) h5
  simp at y3
  have hrx := ownsRow_keepB (ownsRow_monoB hrow (Nat.zero_le _)) (fun g hg => by have := (World.ownsRow.lt hrow g hg).2; exact hbx.block g (by rw [unhide HG5]; exact this))
  have hSTx := hide (hST.far (far_below (E := fun _ => False) (by rw [← unhide HG5]; exact hbx)) (fun _ _ h => h))
  have HSU := hide hSU
  have HB := hide (hb.trans (hbx.mono hgw))
  have H6 := hide h6
  have hnew : AgLd x x (g5 + 1) s G Mod.ld0 := agLd_new h6 (by rw [← (unhide HG).1, ← (unhide HG).2.1, ← (unhide HG).2.2]; rfl)
  have hLD := agLoad_any hnew hrx (unhide HH).2.1 (by omega) (unhide HH).1 (unhide HH).2.2.2
  rw [← hres] at hLD
  have HLD := hide hLD
  have HRES := hide hres
  clear hST hSU hrow hrx hb hbx h5 h6 HG5 hnew hLD hres
  have hnS : ¬ StU s dp lv uv (g5 + 1) := by
    rintro (h | h)
    · have h1 := (unhide hSTx).blk
      rw [← h, unhide H6] at h1
      injection h1 with h1
      injection h1 with _ h1 _
      exact absurd h1 (by decide)
    · exact dk_ne (unhide hSTx).dk (unhide H6) (by decide) (by decide) (by decide) h
  unfold ptrTo at HLD
  cases res with
  | none =>
    go_wp2_with (go_at_call 103; refine (unhide HLD).mono ?_; rintro r z ⟨rfl, hF, _⟩; replace hF := hide hF)
    go_ret2
    have hFw : Far (fun k => k = g5 + 1) w z := (far_below (E := fun k => k = g5 + 1) (unhide HB)).trans (unhide hF) (fun _ _ h => h)
    first | exact .inl ⟨rfl, rfl, hFw.below (Nat.le_refl _) (fun k hk h => by omega)⟩ | exact ⟨rfl, hFw.below (Nat.le_refl _) (fun k hk h => by omega)⟩ | exact .inl ⟨rfl, hFw.below (Nat.le_refl _) (fun k hk h => by omega)⟩
  | some l =>
    go_upto_region 9 with (go_at_call 103; refine (unhide HLD).mono ?_; rintro r z ⟨rfl, hF, hl⟩; have hL := hl l rfl; clear hl)
    have hSx' := (unhide hSTx).far hF (fun k hk e => hnS (by rw [← e]; exact hk))
    have hFw : Far (fun k => k = g5 + 1) w z := (far_below (E := fun k => k = g5 + 1) (unhide HB)).trans hF (fun _ _ h => h)
    have hbw : Below w.heap.size w z := hFw.below (Nat.le_refl _) (fun k hk h => by omega)
    have HLL := hide (And.intro hL (And.intro hSx' hbw))
    obtain ⟨arr, nv, mv, fv, K, _, _⟩ := hL
    have hpz : g5 + 1 < z.heap.size := lt_of_block K.blk
    have q26 : z.cell? ⟨g5 + 1, 26, none⟩ = some (.slice none 0 0) := by rw [blk_cell K.blk]; exact K.ar
    have hca : ∀ o, (z.alloc o).cell? ⟨g5 + 1, 26, none⟩ = some (.slice none 0 0) := fun o => (World.cell?_alloc_lt z _ ⟨g5 + 1, 26, none⟩ hpz).trans q26
    have hfa : ∀ o, (z.alloc o).frozen? ⟨g5 + 1, 26, none⟩ = false := fun o => blk_free (i := 26) ((hao _ _ hpz).trans K.blk)
    have hzg : ¬ g5 + 1 = z.heap.size := by omega
    clear q26 K hF hFw hbw hSx' y3 HLD
    go_wp2
    go_ret2
    obtain ⟨hL, hS, hbw⟩ := unhide HLL
    obtain ⟨R, hR⟩ : ∃ R, R = Obj.cells (agRules (g5 + 1)).toArray 183 (0, 0) := ⟨_, rfl⟩
    obtain ⟨z2, hz2⟩ : ∃ z2, z2 = z.setCell ⟨g5 + 1, 26, none⟩ (.slice (some ⟨z.heap.size, 0, none⟩) 3 3) := ⟨_, rfl⟩
    have hsz2 : z2.heap.size = z.heap.size := by rw [hz2, World.size_setCell]
    have hr2 : RowO (z2.alloc R) 183 2 (.slice (some ⟨z.heap.size, 0, none⟩) 3 3) 3 (agRules (g5 + 1)) := by
      refine ⟨by simp [agRules], .inr ⟨z.heap.size, 0, 3, (agRules (g5 + 1)).toArray, rfl, ?_, by omega, by unfold maxLen; omega, by simp [agRules], by simp [agRules]⟩⟩
      rw [← hsz2, heap_alloc_new, hR]
    obtain ⟨c, hPK, hPU⟩ := paAt_ld hL hS (unhide HH).2.2.1 (fun k hk e => hnS (by rw [← e]; exact hk)) hz2 hr2
    have hR2 : R = Obj.cells #[.int .i64 2, .func (.func 104) #[.pointer (some ⟨g5 + 1, 0, none⟩)] #[], .int .i64 4, .func (.func 105) #[.pointer (some ⟨g5 + 1, 0, none⟩)] #[], .int .i64 5, .func (.func 106) #[.pointer (some ⟨g5 + 1, 0, none⟩)] #[]] 183 (0, 0) := by rw [hR]; rfl
    subst hR2
    subst hz2
    have hwx := (unhide HB).size
    have hfin : ∀ z3, z3 = ((z.setCell ⟨g5 + 1, 26, none⟩ (.slice (some ⟨z.heap.size, 0, none⟩) 3 3)).alloc (.cells #[.int .i64 2, .func (.func 104) #[.pointer (some ⟨g5 + 1, 0, none⟩)] #[], .int .i64 4, .func (.func 105) #[.pointer (some ⟨g5 + 1, 0, none⟩)] #[], .int .i64 5, .func (.func 106) #[.pointer (some ⟨g5 + 1, 0, none⟩)] #[]] 183 (0, 0))) → Below w.heap.size w z3 ∧ ∀ k, PaU (g5 + 1) c k → w.heap.size ≤ k := by
      rintro _ rfl
      refine ⟨(hbw.setCell (p := ⟨g5 + 1, 26, none⟩) (by show w.heap.size ≤ g5 + 1; omega) _).alloc (by rw [World.size_setCell]; exact hbw.size) _, fun k hk => ?_⟩
      rcases hPU k hk with h | h | h | h
      · omega
      · omega
      · exact (unhide HSU) k h
      · have h2 : some z.heap.size = some k := h
        injection h2 with h2
        have := hbw.size
        omega
    obtain ⟨f1, f2⟩ := hfin _ rfl
    first | exact .inr ⟨l, g5 + 1, c, rfl, rfl, hPK, f1, f2⟩ | exact ⟨l, g5 + 1, c, rfl, rfl, hPK, f1, f2⟩
end Go.Proofs.YtamafdcnbcoegaaGreat
namespace Go.Proofs.YtamafdcnbcoegaaGreat
open Go.RowKit

set_option maxRecDepth 100000 in
set_option maxHeartbeats 1000000 in
theorem diskImage_any {w : World} {p : Nat} {d : Mod.Dk} {lv uv : Value} (H : DkAt w p d lv uv) (keep : Int) :
    Calls Tryz.prog 144 #[ptrTo p, .int .u64 keep] w fun r w' => ∃ v', r = .returned v' ∧ Owns w.heap.size w' v' d.bytes ∧ Below w.heap.size w w' := by
  obtain ⟨ad, cap, hlv, _⟩ := (RowO.of_own H.row).shape
  obtain ⟨ud, ucap, huv, _⟩ := H.un.shape
  have hlen := H.len
  have hat : BytesAt w lv d.bytes := (show Owns 0 w lv d.bytes from H.row).at
  have HC := hide (cloneBytes_any w lv d.bytes hat (by omega) hlen.2)
  have c0 : w.cell? ⟨p, 0, none⟩ = some lv := blk_cell (i := 0) H.blk
  have c1 := blk_cell (i := 1) H.blk
  simp at c1
  rw [huv] at c1
  have hpl := lt_of_block H.blk
  rw [hlv] at c0 HC
  clear hat hlv huv H
  unfold ptrTo
  go_enter Tryz.func144, Tryz.ntmps144
  go_upto_region 2 with (go_at_call 192; refine (unhide HC).mono ?_; rintro r y ⟨v', rfl, hown, hb⟩; obtain ⟨vad, vcap, rfl, _⟩ := hown.shape)
  have c1 := (hb.cell (p := ⟨p, 1, none⟩) hpl).trans c1
  have HO := hide (And.intro hown hb)
  clear hown hb c0
  go_wp2
  go_loopw [6, 7, 18] (fun _ _ i wr => i = .int .i64 0 ∧ wr = y) (fun _ _ _ _ => 0)
  case atStart => exact ⟨rfl, rfl⟩
  case round =>
    obtain ⟨rfl, rfl⟩ := hrel
    go_wp2
    go_ret
    exact ⟨_, rfl, (unhide HO).1, (unhide HO).2⟩
theorem storeImage_any {w : World} {s dp : Nat} {st : Mod.Stv} {lv uv : Value} (H : StAt w s dp st lv uv) (keep : Int) :
    Calls Tryz.prog 99 #[ptrTo s, .int .u64 keep] w fun r w' => ∃ v', r = .returned v' ∧ Owns w.heap.size w' v' st.dk.bytes ∧ Below w.heap.size w w' := by
  have c0 : w.cell? ⟨s, 0, none⟩ = some (ptrTo dp) := blk_cell (i := 0) H.blk
  have HI := hide (diskImage_any H.dk keep)
  clear H
  unfold ptrTo at *
  go_enter Tryz.func99, Tryz.ntmps99
  go_wp2_with (go_at_call 144; refine (unhide HI).mono ?_; rintro r y ⟨v', rfl, hown, hb⟩; replace hown := hide hown; replace hb := hide hb)
  go_ret
  exact ⟨_, rfl, unhide hown, unhide hb⟩
theorem diskArm_any {w : World} {p : Nat} {d : Mod.Dk} {lv uv : Value} (H : DkAt w p d lv uv) (n : Int) (hn : n ≤ 9223372036854775807) :
    Calls Tryz.prog 145 #[ptrTo p, .int .i64 n] w fun r w' => r = .returned (.tuple #[]) ∧ DkAt w' p { d with armed := n.toNat } lv uv ∧ Far (fun k => k = p) w w' := by
  have HF := fun v => hide (blk_set (j := 2) (v := v) H.blk)
  have HH := hide H
  have f2 : w.frozen? ⟨p, 2, none⟩ = false := blk_free (i := 2) H.blk
  have c2 := blk_cell (i := 2) H.blk
  simp at c2
  clear H
  have key : ∀ m : Nat, m = n.toNat → DkAt (w.setCell ⟨p, 2, none⟩ (.int .i64 m)) p { d with armed := n.toNat } lv uv ∧ Far (fun k => k = p) w (w.setCell ⟨p, 2, none⟩ (.int .i64 m)) := by
    rintro m rfl
    have H := unhide HH
    have hset := far_set w p 2 (.int .i64 n.toNat)
    have h1 := unhide (HF (.int .i64 n.toNat))
    refine ⟨⟨?_, ownsRow_keepB H.row (fun g hg => hset.rest g (World.ownsRow.lt H.row g hg).2 (fun e => ?_)), H.un.far hset (fun g hg e => ?_), H.len, by show n.toNat ≤ _; omega⟩, hset⟩
    · simpa using h1
    · exact (RowO.of_own H.row).ne H.blk (by decide) (by rw [hg, e])
    · exact H.un.ne H.blk (by decide) (by rw [hg, e])
  have KEY := hide key
  clear key HF HH
  by_cases h0 : (0 : Int) ≤ n
  · have hm : max (0 : Int) n = n := by omega
    unfold ptrTo
    go_enter Tryz.func145, Tryz.ntmps145
    go_wp2
    obtain ⟨k1, k2⟩ := (unhide KEY) n.toNat rfl
    have hnn : ((n.toNat : Nat) : Int) = n := by omega
    rw [hnn] at k1 k2
    exact bodyPost_end (results_none rfl _ _ _) rfl ⟨rfl, k1, k2⟩
  · have hm : max (0 : Int) n = 0 := by omega
    unfold ptrTo
    go_enter Tryz.func145, Tryz.ntmps145
    go_wp2
    obtain ⟨k1, k2⟩ := (unhide KEY) 0 (by omega)
    exact bodyPost_end (results_none rfl _ _ _) rfl ⟨rfl, k1, k2⟩
theorem storeArm_any {w : World} {s dp : Nat} {st : Mod.Stv} {lv uv : Value} (H : StAt w s dp st lv uv) (n : Int) (hn : n ≤ 9223372036854775807) :
    Calls Tryz.prog 101 #[ptrTo s, .int .i64 n] w fun r w' => r = .returned (.tuple #[]) ∧ StAt w' s dp { st with dk := { st.dk with armed := n.toNat } } lv uv ∧ Far (fun k => k = dp) w w' := by
  have c0 : w.cell? ⟨s, 0, none⟩ = some (ptrTo dp) := blk_cell (i := 0) H.blk
  have HI := hide (diskArm_any H.dk n hn)
  have HH := hide H
  clear H
  unfold ptrTo at *
  go_enter Tryz.func101, Tryz.ntmps101
  go_wp2_with (go_at_call 145; refine (unhide HI).mono ?_; rintro r y ⟨rfl, k1, k2⟩; replace k1 := hide k1; replace k2 := hide k2)
  have H := unhide HH
  have hne : s ≠ dp := fun e => H.sep (.inl e)
  exact bodyPost_end (results_none rfl _ _ _) rfl ⟨rfl, ⟨(unhide k2).blk H.blk hne, unhide k1, H.op, H.ct, H.hd⟩, unhide k2⟩
end Go.Proofs.YtamafdcnbcoegaaGreat
namespace Go.Proofs.YtamafdcnbcoegaaGreat
open Go.RowKit

set_option maxHeartbeats 1000000 in
theorem sinkImage_any {w : World} {p e : Nat} {logs : Nat → List ByteArray} {sh : Nat → List (Nat × Value)} {st : Mod.Stv} {c : Sv} (H : PkAt w p e logs sh st c) (keep : Int) :
    Calls Tryz.prog 59 #[ptrTo p, .int .u64 keep] w fun r w' => ∃ v', r = .returned v' ∧ Owns w.heap.size w' v' st.dk.bytes ∧ Below w.heap.size w w' := by
  have c0 : w.cell? ⟨p, 0, none⟩ = some (ptrTo c.s) := by rw [blk_cell H.ks.blk, H.ks.a0]
  have HI := hide (storeImage_any H.stt keep)
  clear H
  unfold ptrTo at *
  go_enter Tryz.func59, Tryz.ntmps59
  go_wp2_with (go_at_call 99; refine (unhide HI).mono ?_; rintro r y ⟨v', rfl, hown, hb⟩; replace hown := hide hown; replace hb := hide hb)
  go_ret
  exact ⟨_, rfl, unhide hown, unhide hb⟩
set_option maxHeartbeats 1000000 in
theorem agImage_any {w : World} {p : Nat} {g : Nat → Nat} {tk : Nat} {wel fen : Bool} {free : List Nat} {sh : Nat → List (Nat × Value)} {st : Mod.Stv} {c : Av} (H : PaAt w p g tk wel fen free sh st c) (keep : Int) :
    Calls Tryz.prog 58 #[ptrTo p, .int .u64 keep] w fun r w' => ∃ v', r = .returned v' ∧ Owns w.heap.size w' v' st.dk.bytes ∧ Below w.heap.size w w' := by
  have c0 : w.cell? ⟨p, 0, none⟩ = some (ptrTo c.s) := by rw [blk_cell H.ks.blk, H.ks.a0]
  have HI := hide (storeImage_any H.stt keep)
  clear H
  unfold ptrTo at *
  go_enter Tryz.func58, Tryz.ntmps58
  go_wp2_with (go_at_call 99; refine (unhide HI).mono ?_; rintro r y ⟨v', rfl, hown, hb⟩; replace hown := hide hown; replace hb := hide hb)
  go_ret
  exact ⟨_, rfl, unhide hown, unhide hb⟩
set_option maxHeartbeats 1000000 in
theorem csImageOf {w : World} {v p e : Nat} {logs : Nat → List ByteArray} {sh : Nat → List (Nat × Value)} {st : Mod.Stv} {c : Sv} (hb : w.heap[v]? = some (.cells #[ptrTo p] 93 (0, 0))) (H : PkAt w p e logs sh st c) (keep : Int) :
    Calls Tryz.prog 30 #[ptrTo v, .int .u64 keep] w fun r w' => ∃ v', r = .returned v' ∧ Owns w.heap.size w' v' st.dk.bytes ∧ Below w.heap.size w w' := by
  have c0 : w.cell? ⟨v, 0, none⟩ = some (ptrTo p) := blk_cell (i := 0) hb
  have HI := hide (sinkImage_any H keep)
  clear H hb
  unfold ptrTo at *
  go_enter Tryz.func30, Tryz.ntmps30
  go_wp2_with (go_at_call 59; refine (unhide HI).mono ?_; rintro r y ⟨v', rfl, hown, hb⟩; replace hown := hide hown; replace hb := hide hb)
  go_ret
  exact ⟨_, rfl, unhide hown, unhide hb⟩
set_option maxHeartbeats 1000000 in
theorem caImageOf {w : World} {v p : Nat} {g : Nat → Nat} {tk : Nat} {wel fen : Bool} {free : List Nat} {sh : Nat → List (Nat × Value)} {st : Mod.Stv} {c : Av} (hb : w.heap[v]? = some (.cells #[ptrTo p] 90 (0, 0))) (H : PaAt w p g tk wel fen free sh st c) (keep : Int) :
    Calls Tryz.prog 29 #[ptrTo v, .int .u64 keep] w fun r w' => ∃ v', r = .returned v' ∧ Owns w.heap.size w' v' st.dk.bytes ∧ Below w.heap.size w w' := by
  have c0 : w.cell? ⟨v, 0, none⟩ = some (ptrTo p) := blk_cell (i := 0) hb
  have HI := hide (agImage_any H keep)
  clear H hb
  unfold ptrTo at *
  go_enter Tryz.func29, Tryz.ntmps29
  go_wp2_with (go_at_call 58; refine (unhide HI).mono ?_; rintro r y ⟨v', rfl, hown, hb⟩; replace hown := hide hown; replace hb := hide hb)
  go_ret
  exact ⟨_, rfl, unhide hown, unhide hb⟩
set_option maxRecDepth 100000 in
set_option maxHeartbeats 4000000 in
theorem sinkDeliver_deaf {w : World} {p e : Nat} {logs : Nat → List ByteArray} {sh : Nat → List (Nat × Value)} {st : Mod.Stv} {c : Sv} (H : PkAt w p e logs sh st c) (hs : st.dk.dead = false) (bs : Value) (l : List UInt8) (hat : BytesAt w bs l) (hr : Wire.reads l = false) :
    Calls Tryz.prog 56 #[ptrTo p, bs] w fun r z => r = .returned (.tuple #[.slice none 0 0, .int .i64 1]) ∧ Below w.heap.size w z := by
  have c0 : w.cell? ⟨p, 0, none⟩ = some (ptrTo c.s) := by rw [blk_cell H.ks.blk, H.ks.a0]
  have hID := storeIsDead_any H.stt
  rw [hs] at hID
  have HID := hide hID
  have hDC := decode_any bs l w hat
  rw [hr] at hDC
  simp only [Bool.false_eq_true, if_false, zeroFr] at hDC
  have HDC := hide hDC
  clear H hID hDC
  unfold ptrTo at *
  go_enter Tryz.func56, Tryz.ntmps56
  go_wp2_with (first | (go_at_call 86; refine (unhide HID).mono ?_; rintro r y ⟨rfl, rfl⟩) | (go_at_call 54; refine (unhide HDC).mono ?_; rintro r y ⟨rfl, hb⟩; replace hb := hide hb))
  go_ret2
  exact ⟨rfl, (unhide hb).alloc (unhide hb).size _⟩
end Go.Proofs.YtamafdcnbcoegaaGreat
namespace Go.Proofs.YtamafdcnbcoegaaGreat
open Go.RowKit
section
variable {w : World} {p : Nat} {g : Nat → Nat} {tk : Nat} {wel fen : Bool} {free : List Nat} {sh : Nat → List (Nat × Value)} {st : Mod.Stv} {c : Av} {a : Mod.Ag} {pl : Nat → List Nat}
set_option maxHeartbeats 1000000 in
theorem agSubmit_dead (H : PaAt w p g tk wel fen free sh st c) (hs : st.dk.dead = true) (i : Int) (s : ByteArray) :
    Calls Tryz.prog 52 #[ptrTo p, .int .i64 i, .string s] w fun r w' => r = .returned (.int .i64 3) ∧ w' = w := by
  have c0 : w.cell? ⟨p, 0, none⟩ = some (ptrTo c.s) := by rw [blk_cell H.ks.blk, H.ks.a0]
  have hID := storeIsDead_any H.stt
  rw [hs] at hID
  have HID := hide hID
  clear H hID
  unfold ptrTo at *
  go_enter Tryz.func52, Tryz.ntmps52
  go_wp2_with (go_at_call 86; refine (unhide HID).mono ?_; rintro r y ⟨rfl, hyw⟩; obtain rfl : w = y := hyw.symm)
  go_ret
  exact ⟨rfl, rfl⟩
set_option maxHeartbeats 1000000 in
theorem agDeliver_dead (H : PaAt w p g tk wel fen free sh st c) (hs : st.dk.dead = true) (bs : Value) :
    Calls Tryz.prog 57 #[ptrTo p, bs] w fun r w' => r = .returned (.int .i64 3) ∧ w' = w := by
  have c0 : w.cell? ⟨p, 0, none⟩ = some (ptrTo c.s) := by rw [blk_cell H.ks.blk, H.ks.a0]
  have hID := storeIsDead_any H.stt
  rw [hs] at hID
  have HID := hide hID
  clear H hID
  unfold ptrTo at *
  go_enter Tryz.func57, Tryz.ntmps57
  go_wp2_with (go_at_call 86; refine (unhide HID).mono ?_; rintro r y ⟨rfl, hyw⟩; obtain rfl : w = y := hyw.symm)
  go_ret
  exact ⟨rfl, rfl⟩
set_option maxHeartbeats 1000000 in
theorem agArm_any (H : PaAt w p g tk wel fen free sh st c) (n : Int) (hn : n ≤ 9223372036854775807) :
    Calls Tryz.prog 61 #[ptrTo p, .int .i64 n] w fun r w' => r = .returned (.tuple #[]) ∧ PaAt w' p g tk wel fen free sh { st with dk := { st.dk with armed := n.toNat } } c ∧ Far (fun k => k = c.dp) w w' := by
  have c0 : w.cell? ⟨p, 0, none⟩ = some (ptrTo c.s) := by rw [blk_cell H.ks.blk, H.ks.a0]
  have HA := hide (storeArm_any H.stt n hn)
  have HH := hide H
  clear H
  unfold ptrTo at *
  go_enter Tryz.func61, Tryz.ntmps61
  go_wp2_with (go_at_call 101; refine (unhide HA).mono ?_; rintro r y ⟨rfl, k1, k2⟩; replace k1 := hide k1; replace k2 := hide k2)
  have H := unhide HH
  exact bodyPost_end (results_none rfl _ _ _) rfl ⟨rfl, ⟨H.ks.far (unhide k2) (fun k hk e => H.sep k hk (by rw [e]; exact .inr (.inl rfl))), unhide k1, H.rl.far (unhide k2) (fun g hg e => (H.sepr g hg).2 (by rw [e]; exact .inr (.inl rfl))), H.len⟩, unhide k2⟩
set_option maxRecDepth 100000 in
set_option maxHeartbeats 4000000 in
theorem agTick_dead (H : PaAt w p g tk wel fen free sh st c) (hs : st.dk.dead = true) (htk : tk ≤ 1000000000) :
    Calls Tryz.prog 53 #[ptrTo p] w fun r z => r = .returned (.slice none 0 0) ∧ PaStep w z p g (tk + 1) wel fen free sh st c := by
  have c23 : w.cell? ⟨p, 23, none⟩ = some (.int .i64 tk) := by rw [blk_cell H.ks.blk, H.ks.at']
  have f23 : w.frozen? ⟨p, 23, none⟩ = false := blk_free (i := 23) H.ks.blk
  obtain ⟨t2, ht2⟩ : ∃ t2, t2 = tk + 1 := ⟨_, rfl⟩
  rw [← ht2]
  have HT := hide ht2
  have HH := hide H
  clear H ht2
  unfold ptrTo at *
  go_enter Tryz.func53, Tryz.ntmps53
  go_upto_region 2 with fail
  refine wp_world (fun x => PaStep w x p g t2 wel fen free sh st c) ?_ ?_
  · rw [show ((tk : Int) + 1) = ((t2 : Nat) : Int) by have := unhide HT; omega]
    exact paStep_tick (unhide HH) t2
  clear c23 f23
  rintro x hst
  obtain ⟨c1, K1, F1, N1, s1, s2⟩ := hst
  have d25 : x.cell? ⟨p, 25, none⟩ = some (.bool fen) := by rw [blk_cell K1.ks.blk, K1.ks.ae]
  have d0 : x.cell? ⟨p, 0, none⟩ = some (ptrTo c1.s) := by rw [blk_cell K1.ks.blk, K1.ks.a0]
  have hID := storeIsDead_any K1.stt
  rw [hs] at hID
  have HID := hide hID
  have HS := hide (⟨c1, K1, F1, N1, s1, s2⟩ : PaStep w x p g t2 wel fen free sh st c)
  clear K1 F1 N1 s1 s2 hID
  unfold ptrTo at *
  cases fen with
  | true =>
    go_wp2_with (go_at_call 86; refine (unhide HID).mono ?_; rintro r y ⟨rfl, hyw⟩; obtain rfl : x = y := hyw.symm)
    go_ret
    exact ⟨rfl, unhide HS⟩
  | false =>
    go_wp2_with (go_at_call 86; refine (unhide HID).mono ?_; rintro r y ⟨rfl, hyw⟩; obtain rfl : x = y := hyw.symm)
    go_ret
    exact ⟨rfl, unhide HS⟩
end
/-- An agent that is opened: its shelves. -/
theorem onAg_opened {L : List UInt8} {hd : Mod.Hd} {at' : Nat} {rs : List Mod.Rc} {l : Mod.Ld} (ho : Mod.openSt L = some (hd, at', rs)) (hl : Mod.ldAll hd.num rs 0 Mod.ld0 = some l) (hk : ∀ i, i < 3 → Mod.okP (l.sh i) (hd.num i) = true) (hlen : L.length = 1664) :
    OnAg (Mod.agOf hd.o hd.num l) (hd.o + 1) hd.num l.free (shOf l) (Mod.plOf l) := by
  obtain ⟨h1, P, h3⟩ := Mod.agDisk_opened ho hl hk hlen
  have hbs : ∀ i, i < 3 → ((Mod.agOf hd.o hd.num l).fl i).base = hd.num i := fun i hi => by unfold Mod.agOf; simp only; rw [if_pos hi]
  have hkt : ∀ i, i < 3 → ((Mod.agOf hd.o hd.num l).fl i).kept = (l.sh i).map fun e => (e.2.1, 0) := fun i hi => by unfold Mod.agOf; simp only; rw [if_pos hi]
  have hhd : ∀ i, i < 3 → ((Mod.agOf hd.o hd.num l).fl i).held = [] := fun i hi => by unfold Mod.agOf; simp only; rw [if_pos hi]
  have hsh1 : ∀ i, shOf l (i * 3 + 1) = [] := fun i => by unfold shOf; rw [if_neg (by omega)]
  have hsh2 : ∀ i, shOf l (i * 3 + 2) = [] := fun i => by unfold shOf; rw [if_neg (by omega)]
  refine ⟨rfl, fun i hi => (hbs i hi).symm, P.pn, fun i hi => ?_, fun i hi n => ?_, fun i hi => ?_, fun i hi n => ?_, fun i hi => ?_, fun i hi => ?_, P.nd, P.lt, P.sum⟩
  · rw [shOf_kept, keptL_toV, hbs i hi, hkt i hi, h3 i hi]
  · rw [hsh1]
    unfold sentF
    rw [hkt i hi, List.getElem?_map]
    show none = _
    split
    · rfl
    · cases (l.sh i)[n - ((Mod.agOf hd.o hd.num l).fl i).base - 1]? with
      | none => rfl
      | some e => rfl
  · rw [hsh1]; exact fun x hx => by cases hx
  · rw [hsh2, hhd i hi]; rfl
  · rw [hsh2]; exact fun x hx => by cases hx
  · rw [hsh2]; simp
end Go.Proofs.YtamafdcnbcoegaaGreat
namespace Go.Proofs.YtamafdcnbcoegaaGreat
open Go.RowKit

/-- The program's agent in memory: its opening, at most so many writes, at which write its disk fails. -/
def CyAt (op ct n : Nat) (w : World) (v : Nat) (a : Mod.Ag) (U : Nat → Prop) : Prop :=
  ∃ p g free sh pl st c, w.heap[v]? = some (.cells #[ptrTo p] 90 (0, 0)) ∧ PaAt w p g a.ticks a.welcome a.fenced free sh st c ∧ AlvA op ct n st a free pl ∧ OnAg a st.opening g free sh pl ∧ U = fun k => k = v ∨ PaU p c k
/-- The program's agent in memory, dead. -/
def CyDd (op : Nat) (w : World) (v : Nat) (a : Mod.Ag) (U : Nat → Prop) : Prop :=
  ∃ p g free sh st c, w.heap[v]? = some (.cells #[ptrTo p] 90 (0, 0)) ∧ PaAt w p g a.ticks a.welcome a.fenced free sh st c ∧ DedA op st a ∧ a.epoch = op ∧ U = fun k => k = v ∨ PaU p c k
section
variable {op ct n N : Nat} {w w' : World} {v : Nat} {a : Mod.Ag} {U : Nat → Prop}
theorem cyAt_lt (h : CyAt op ct n w v a U) : ∀ k, U k → k < w.heap.size := by
  obtain ⟨p, g, free, sh, pl, st, c, hb, H, _, _, rfl⟩ := h
  rintro k (rfl | hk)
  · exact lt_of_block hb
  · exact H.lt k hk
theorem cyAt_far {E : Nat → Prop} (h : CyAt op ct n w v a U) (hf : Far E w w') (hE : ∀ k, U k → ¬ E k) : CyAt op ct n w' v a U := by
  obtain ⟨p, g, free, sh, pl, st, c, hb, H, h1, h2, rfl⟩ := h
  exact ⟨p, g, free, sh, pl, st, c, hf.blk hb (hE v (.inl rfl)), H.far hf (fun k hk => hE k (.inr hk)), h1, h2, rfl⟩
theorem cyDd_lt (h : CyDd op w v a U) : ∀ k, U k → k < w.heap.size := by
  obtain ⟨p, g, free, sh, st, c, hb, H, _, _, rfl⟩ := h
  rintro k (rfl | hk)
  · exact lt_of_block hb
  · exact H.lt k hk
theorem cyDd_far {E : Nat → Prop} (h : CyDd op w v a U) (hf : Far E w w') (hE : ∀ k, U k → ¬ E k) : CyDd op w' v a U := by
  obtain ⟨p, g, free, sh, st, c, hb, H, h1, h2, rfl⟩ := h
  exact ⟨p, g, free, sh, st, c, hf.blk hb (hE v (.inl rfl)), H.far hf (fun k hk => hE k (.inr hk)), h1, h2, rfl⟩
theorem cyAt_plain (h : CyAt op ct 0 w v a U) : CaAt w v a U := by
  obtain ⟨p, g, free, sh, pl, st, c, hb, H, h1, h2, rfl⟩ := h
  exact ⟨p, g, free, sh, pl, st, c, hb, H, h1.sound, h2, rfl⟩
theorem cyAt_ep (h : CyAt op ct n w v a U) : a.epoch = op := by
  obtain ⟨p, g, free, sh, pl, st, c, hb, H, h1, h2, rfl⟩ := h
  rw [← h2.ep]
  exact h1.op
theorem cyAt_is {p : Nat} {c : Av} {z : World} {a' : Mod.Ag} (hb : w.heap[v]? = some (.cells #[ptrTo p] 90 (0, 0))) (hnv : ¬ PaU p c v) (h : AgIs2 op ct n w z p a' c) :
    ∃ U', CyAt op ct n z v a' U' ∧ Far (fun k => k = v ∨ PaU p c k) w z ∧ ∀ k, U' k → (k = v ∨ PaU p c k) ∨ w.heap.size ≤ k := by
  obtain ⟨g, free, sh, pl, st, ⟨c', K, F', Nn, s1, s2⟩, hs, O⟩ := h
  refine ⟨_, ⟨p, g, free, sh, pl, st, c', F'.blk hb hnv, K, hs, O, rfl⟩, F'.mono (fun _ _ h => .inr h), ?_⟩
  rintro k (rfl | hk)
  · exact .inl (.inl rfl)
  · exact (Nn k hk).imp .inr id
theorem cyDd_is {p : Nat} {c : Av} {z : World} {a' : Mod.Ag} (hb : w.heap[v]? = some (.cells #[ptrTo p] 90 (0, 0))) (hnv : ¬ PaU p c v) (he : a'.epoch = op) (h : DeadA op w z p a' c) :
    ∃ U', CyDd op z v a' U' ∧ Far (fun k => k = v ∨ PaU p c k) w z ∧ ∀ k, U' k → (k = v ∨ PaU p c k) ∨ w.heap.size ≤ k := by
  obtain ⟨g, free, sh, st, ⟨c', K, F', Nn, s1, s2⟩, hs⟩ := h
  refine ⟨_, ⟨p, g, free, sh, st, c', F'.blk hb hnv, K, hs, he, rfl⟩, F'.mono (fun _ _ h => .inr h), ?_⟩
  rintro k (rfl | hk)
  · exact .inl (.inl rfl)
  · exact (Nn k hk).imp .inr id
theorem cySubmit (i : Int) (s : ByteArray) (h : CyAt op ct n w v a U) (G : AgGood N a) (hN : N < 1000000000) (hct : ct + 1000 < 18446744073709551616) (hn : n ≠ 1) :
    Calls Tryz.prog 21 #[ptrTo v, .int .i64 i, .string s] w fun r w' =>
      ∃ U' n', r = .returned (.int .i64 (a.refuses i s.size)) ∧ (n = 0 → n' = 0) ∧ CyAt op (ct + 1) n' w' v (agSubmits a i s) U' ∧ Far U w w' ∧ ∀ k, U' k → U k ∨ w.heap.size ≤ k := by
  obtain ⟨p, g, free, sh, pl, st, c, hb, H, hs, O, rfl⟩ := h
  have c0 : w.cell? ⟨v, 0, none⟩ = some (ptrTo p) := blk_cell (i := 0) hb
  have hA : Calls Tryz.prog 52 #[ptrTo p, .int .i64 i, .string s] w fun r z => r = .returned (.int .i64 (a.refuses i s.size)) ∧ ∃ n', (n = 0 → n' = 0) ∧ AgIs2 op (ct + 1) n' w z p (agSubmits a i s) c := by
    unfold agSubmits
    by_cases h0 : a.refuses i s.size = 0
    · rw [if_pos h0]
      obtain ⟨⟨h1, h2⟩, h3, h4⟩ := refuses_0 h0
      obtain ⟨m, rfl⟩ := Int.eq_ofNat_of_zero_le h1
      refine (agSubmit_ok2 H hs hct hn O (i := m) (by omega) s h3 h4 (by have := G.sum m (by omega); omega)).mono ?_
      rintro r z ⟨rfl, h⟩
      exact ⟨by rw [h0], n - 1, by omega, h⟩
    · rw [if_neg h0]
      refine (agSubmit_no2 H hs.dead O i s h0).mono ?_
      rintro r z ⟨rfl, rfl⟩
      exact ⟨rfl, n, id, g, free, sh, pl, st, paStep_refl H, ⟨hs.dead, hs.arm, hs.op, Nat.le_succ_of_le hs.ct, hs.dk⟩, O⟩
  have HA := hide hA
  have HB := hide (And.intro hb (ca_not H hb))
  generalize agSubmits a i s = a2 at *
  generalize a.refuses i s.size = e at *
  clear H O hs hb hA
  unfold ptrTo at *
  go_enter Tryz.func21, Tryz.ntmps21
  go_wp2_with (go_at_call 52; refine (unhide HA).mono ?_; rintro r y ⟨rfl, n', k0, k1⟩; replace k1 := hide k1; replace k0 := hide k0)
  go_ret
  obtain ⟨U', h1, h2, h3⟩ := cyAt_is (unhide HB).1 (unhide HB).2 (unhide k1)
  exact ⟨U', n', rfl, unhide k0, h1, h2, h3⟩
theorem cySubmit_bad (i : Int) (s : ByteArray) (h : CyAt op ct 1 w v a U) (G : AgGood N a) (hN : N < 1000000000) (h0 : a.refuses i s.size = 0) :
    Calls Tryz.prog 21 #[ptrTo v, .int .i64 i, .string s] w fun r w' =>
      ∃ U', r = .returned (.int .i64 4) ∧ CyDd op w' v a U' ∧ Far U w w' ∧ ∀ k, U' k → U k ∨ w.heap.size ≤ k := by
  have hep := cyAt_ep h
  obtain ⟨p, g, free, sh, pl, st, c, hb, H, hs, O, rfl⟩ := h
  have c0 : w.cell? ⟨v, 0, none⟩ = some (ptrTo p) := blk_cell (i := 0) hb
  have hA : Calls Tryz.prog 52 #[ptrTo p, .int .i64 i, .string s] w fun r z => r = .returned (.int .i64 4) ∧ DeadA op w z p a c := by
    obtain ⟨⟨h1, h2⟩, h3, h4⟩ := refuses_0 h0
    obtain ⟨m, rfl⟩ := Int.eq_ofNat_of_zero_le h1
    exact agSubmit_bad H hs O (i := m) (by omega) s h3 h4 (by have := G.sum m (by omega); omega)
  have HA := hide hA
  have HB := hide (And.intro hb (And.intro (ca_not H hb) hep))
  clear H O hs hb hA hep h0 G
  unfold ptrTo at *
  go_enter Tryz.func21, Tryz.ntmps21
  go_wp2_with (go_at_call 52; refine (unhide HA).mono ?_; rintro r y ⟨rfl, k1⟩; replace k1 := hide k1)
  go_ret
  obtain ⟨U', h1, h2, h3⟩ := cyDd_is (unhide HB).1 (unhide HB).2.1 (unhide HB).2.2 (unhide k1)
  exact ⟨U', rfl, h1, h2, h3⟩
theorem cyDeadSubmit (i : Int) (s : ByteArray) (h : CyDd op w v a U) : Calls Tryz.prog 21 #[ptrTo v, .int .i64 i, .string s] w fun r w' => r = .returned (.int .i64 3) ∧ w' = w := by
  obtain ⟨p, g, free, sh, st, c, hb, H, hs, he, rfl⟩ := h
  have c0 : w.cell? ⟨v, 0, none⟩ = some (ptrTo p) := blk_cell (i := 0) hb
  have HD := hide (agSubmit_dead H hs.dead i s)
  clear H hb
  unfold ptrTo at *
  go_enter Tryz.func21, Tryz.ntmps21
  go_wp2_with (go_at_call 52; refine (unhide HD).mono ?_; rintro r y ⟨rfl, rfl⟩)
  go_ret
  exact ⟨rfl, rfl⟩
theorem cyDeadDeliver (bs : Value) (h : CyDd op w v a U) : Calls Tryz.prog 28 #[ptrTo v, bs] w fun r w' => r = .returned (.int .i64 3) ∧ w' = w := by
  obtain ⟨p, g, free, sh, st, c, hb, H, hs, he, rfl⟩ := h
  have c0 : w.cell? ⟨v, 0, none⟩ = some (ptrTo p) := blk_cell (i := 0) hb
  have HD := hide (agDeliver_dead H hs.dead bs)
  clear H hb
  unfold ptrTo at c0 HD
  show Calls Tryz.prog _ #[.pointer (some ⟨v, 0, none⟩), bs] w _
  go_enter Tryz.func28, Tryz.ntmps28
  go_wp2_with (go_at_call 57; refine (unhide HD).mono ?_; rintro r y ⟨rfl, rfl⟩)
  go_ret
  exact ⟨rfl, rfl⟩
theorem cyDeadTick (h : CyDd op w v a U) (htk : a.ticks ≤ 1000000000) : Calls Tryz.prog 24 #[ptrTo v] w fun r w' =>
    ∃ U', r = .returned (.slice none 0 0) ∧ CyDd op w' v { a with ticks := a.ticks + 1 } U' ∧ Far U w w' ∧ ∀ k, U' k → U k ∨ w.heap.size ≤ k := by
  obtain ⟨p, g, free, sh, st, c, hb, H, hs, he, rfl⟩ := h
  have c0 : w.cell? ⟨v, 0, none⟩ = some (ptrTo p) := blk_cell (i := 0) hb
  have HD := hide (agTick_dead H hs.dead htk)
  have HB := hide (And.intro hb (And.intro (ca_not H hb) (And.intro he hs)))
  clear H hb he hs
  unfold ptrTo at *
  go_enter Tryz.func24, Tryz.ntmps24
  go_wp2_with (go_at_call 53; refine (unhide HD).mono ?_; rintro r y ⟨rfl, k1⟩; replace k1 := hide k1)
  go_ret
  obtain ⟨h1, h2, h3, h4⟩ := unhide HB
  obtain ⟨ct2, hd2, fr2, pl2, q1, q2⟩ := h4.dk
  obtain ⟨U', k2, k3, k4⟩ := cyDd_is (a' := { a with ticks := a.ticks + 1 }) h1 h2 h3 ⟨g, free, sh, st, unhide k1, ⟨h4.dead, h4.op, ct2, hd2, fr2, pl2, q1.same (fun i _ => ⟨rfl, rfl⟩), ⟨q2.pn, q2.nd, q2.lt, q2.sum⟩⟩⟩
  exact ⟨U', rfl, k2, k3, k4⟩
theorem caArmOf {p : Nat} {g : Nat → Nat} {tk : Nat} {wel fen : Bool} {free : List Nat} {sh : Nat → List (Nat × Value)} {st : Mod.Stv} {c : Av} (hb : w.heap[v]? = some (.cells #[ptrTo p] 90 (0, 0))) (H : PaAt w p g tk wel fen free sh st c) (m : Int) (hm : m ≤ 9223372036854775807) :
    Calls Tryz.prog 34 #[ptrTo v, .int .i64 m] w fun r w' => r = .returned (.tuple #[]) ∧ w'.heap[v]? = some (.cells #[ptrTo p] 90 (0, 0)) ∧ PaAt w' p g tk wel fen free sh { st with dk := { st.dk with armed := m.toNat } } c ∧ Far (fun k => k = v ∨ PaU p c k) w w' := by
  have c0 : w.cell? ⟨v, 0, none⟩ = some (ptrTo p) := blk_cell (i := 0) hb
  have HD := hide (agArm_any H m hm)
  have hnv := ca_not H hb
  have HB := hide hb
  clear H hb hm
  unfold ptrTo at *
  go_enter Tryz.func34, Tryz.ntmps34
  go_wp2_with (go_at_call 61; refine (unhide HD).mono ?_; rintro r y ⟨rfl, k1, k2⟩; replace k1 := hide k1; replace k2 := hide k2)
  have F := unhide k2
  exact bodyPost_end (results_none rfl _ _ _) rfl ⟨rfl, F.blk (unhide HB) (fun e => hnv (by rw [e]; exact .inr (.inl (.inr (.inl rfl))))), unhide k1, F.mono (fun k _ e => .inr (by rw [e]; exact .inr (.inl (.inr (.inl rfl)))))⟩
theorem cyArm (m : Int) (h : CyAt op ct n w v a U) (hm : m ≤ 9223372036854775807) : Calls Tryz.prog 34 #[ptrTo v, .int .i64 m] w fun r w' => r = .returned (.tuple #[]) ∧ CyAt op ct m.toNat w' v a U ∧ Far U w w' := by
  obtain ⟨p, g, free, sh, pl, st, c, hb, H, hs, O, rfl⟩ := h
  refine (caArmOf hb H m hm).mono ?_
  rintro r y ⟨rfl, k1, k2, k3⟩
  exact ⟨rfl, ⟨p, g, free, sh, pl, _, c, k1, k2, ⟨hs.dead, rfl, hs.op, hs.ct, hs.dk⟩, O, rfl⟩, k3⟩
theorem cyImg (h : CyAt op ct n w v a U) : ∃ (L : List UInt8) (c2 hd : Nat) (free : List Nat) (pl : Nat → List Nat), Mod.AgDisk L op c2 hd a free pl ∧ Mod.Places a free pl ∧ ∀ x, Below w.heap.size w x → ∀ keep : Int,
    Calls Tryz.prog 29 #[ptrTo v, .int .u64 keep] x fun r y => ∃ v', r = .returned v' ∧ Owns x.heap.size y v' L ∧ Below x.heap.size x y := by
  obtain ⟨p, g, free, sh, pl, st, c, hb, H, hs, O, rfl⟩ := h
  refine ⟨st.dk.bytes, st.count, st.head, free, pl, by rw [← hs.op]; exact hs.dk, O.places, fun x hx keep => ?_⟩
  exact caImageOf ((hx.block _ (lt_of_block hb)).trans hb) (H.far (E := fun _ => False) (far_below hx) (fun _ _ e => e)) keep
theorem cyImgD (h : CyDd op w v a U) : a.epoch = op ∧ ∃ (L : List UInt8) (c2 hd : Nat) (free : List Nat) (pl : Nat → List Nat), Mod.AgDisk L op c2 hd a free pl ∧ Mod.Places a free pl ∧ ∀ x, Below w.heap.size w x → ∀ keep : Int,
    Calls Tryz.prog 29 #[ptrTo v, .int .u64 keep] x fun r y => ∃ v', r = .returned v' ∧ Owns x.heap.size y v' L ∧ Below x.heap.size x y := by
  obtain ⟨p, g, free, sh, st, c, hb, H, hs, he, rfl⟩ := h
  obtain ⟨c2, hd, fr2, pl2, q1, q2⟩ := hs.dk
  refine ⟨he, st.dk.bytes, c2, hd, fr2, pl2, by rw [← hs.op]; exact q1, q2, fun x hx keep => ?_⟩
  exact caImageOf ((hx.block _ (lt_of_block hb)).trans hb) (H.far (E := fun _ => False) (far_below hx) (fun _ _ e => e)) keep
end
theorem ldRes_of {g : Nat → Nat} {rs : List Mod.Rc} {l : Mod.Ld} (h1 : Mod.ldAll g rs 0 Mod.ld0 = some l) (h2 : ∀ i, i < 3 → Mod.okP (l.sh i) (g i) = true) : Mod.ldRes g rs = some l := by
  unfold Mod.ldRes
  rw [h1]
  simp only
  rw [if_pos ⟨h2 0 (by omega), h2 1 (by omega), h2 2 (by omega)⟩]
set_option maxHeartbeats 1000000 in
theorem cyOpen_of {w : World} (bs : Value) (L : List UInt8) (hat : BytesAt w bs L) (hlen : L.length = 1664) {h : Mod.Hd} {at' : Nat} {rs : List Mod.Rc} {l : Mod.Ld} (ho : Mod.openSt L = some (h, at', rs)) (hl : Mod.ldAll h.num rs 0 Mod.ld0 = some l) (hk : ∀ i, i < 3 → Mod.okP (l.sh i) (h.num i) = true) :
    Calls Tryz.prog 37 #[bs] w fun r w' =>
      ∃ v U, r = .returned (.tuple #[ptrTo v, .int .i64 0]) ∧ CyAt (h.o + 1) 1 0 w' v (Mod.agOf h.o h.num l) U ∧ Below w.heap.size w w' ∧ ∀ k, U k → w.heap.size ≤ k := by
  have HD : Hid (Calls Tryz.prog 64 #[bs] w fun r w' => ∃ p c, r = .returned (.tuple #[ptrTo p, .int .i64 0]) ∧ PaAt w' p h.num 0 false false l.free (shOf l) (newStv L h at') c ∧ Below w.heap.size w w' ∧ ∀ k, PaU p c k → w.heap.size ≤ k) := by
    refine (agOpen_some w bs L hat hlen ho).mono ?_
    rintro r y (⟨h1, _⟩ | ⟨l2, p, c, e1, rfl, k1, k2, k3⟩)
    · rw [ldRes_of hl hk] at h1; cases h1
    · rw [ldRes_of hl hk] at e1
      injection e1 with e1
      subst e1
      exact ⟨p, c, rfl, k1, k2, k3⟩
  have HA : Hid (AlvA (h.o + 1) 1 0 (newStv L h at') (Mod.agOf h.o h.num l) l.free (Mod.plOf l)) := ⟨rfl, rfl, rfl, Nat.le_refl _, (Mod.agDisk_opened ho hl hk hlen).1⟩
  have HO : Hid (OnAg (Mod.agOf h.o h.num l) (newStv L h at').opening h.num l.free (shOf l) (Mod.plOf l)) := onAg_opened ho hl hk hlen
  have ht : (Mod.agOf h.o h.num l).ticks = 0 := rfl
  have hw : (Mod.agOf h.o h.num l).welcome = false := rfl
  have hf : (Mod.agOf h.o h.num l).fenced = false := rfl
  clear hat ho hlen hl hk
  generalize Mod.agOf h.o h.num l = a at *
  generalize newStv L h at' = st at HD HA HO
  generalize h.o + 1 = op1 at HA ⊢
  generalize h.num = gn at HD HO
  generalize shOf l = shl at HD HO
  generalize Mod.plOf l = pll at HA HO
  generalize l.free = lf at HD HA HO
  have HF := hide (And.intro ht (And.intro hw hf))
  clear ht hw hf
  unfold ptrTo at *
  go_enter Tryz.func37, Tryz.ntmps37
  go_wp2_with (go_at_call 64; refine (unhide HD).mono ?_; rintro r y ⟨p, c, rfl, K, hb, hU⟩; replace K := hide K; replace hb := hide hb; replace hU := hide hU)
  go_ret2
  have hb := unhide hb
  obtain ⟨ht, hw, hf⟩ := unhide HF
  refine ⟨y.heap.size, _, rfl, ⟨p, _, _, _, _, st, c, heap_alloc_new _ _, ?_, unhide HA, unhide HO, rfl⟩, hb.alloc hb.size _, ?_⟩
  · rw [ht, hw, hf]
    exact (unhide K).below ((Below.refl _ _).alloc (Nat.le_refl _) _)
  · rintro k (rfl | hk)
    · exact hb.size
    · exact (unhide hU) k hk
theorem cyOpen {w : World} (bs : Value) (L : List UInt8) {op c2 hd : Nat} {a : Mod.Ag} {free : List Nat} {pl : Nat → List Nat} (hat : BytesAt w bs L) (D : Mod.AgDisk L op c2 hd a free pl) (P : Mod.Places a free pl) (he : a.epoch = op) (hop : op ≤ 1073741824) (hsum : ∀ i, i < 3 → (a.fl i).base + (a.fl i).kept.length ≤ 1073741824) :
    Calls Tryz.prog 37 #[bs] w fun r w' => ∃ v U, r = .returned (.tuple #[ptrTo v, .int .i64 0]) ∧ CyAt (op + 1) 1 0 w' v (Mod.reop a) U ∧ Below w.heap.size w w' ∧ ∀ k, U k → w.heap.size ≤ k := by
  obtain ⟨h', at', rs, l, o1, o2, o3, o4⟩ := Mod.agLoad_some (D.loads P he hop hsum)
  have hoo : h'.o = op := by
    have := congrArg Mod.Ag.epoch o4
    have h1 : (Mod.reop a).epoch = a.epoch + 1 := rfl
    have h2 : (Mod.agOf h'.o h'.num l).epoch = h'.o + 1 := rfl
    omega
  subst hoo
  rw [o4]
  exact cyOpen_of bs L hat D.ok.len o1 o2 o3
theorem zero_ld : Mod.ldAll Mod.hd0.num ((List.range (26 - 2)).map fun _ => Mod.rc0) 0 Mod.ld0 = some ⟨List.range 24, fun _ => []⟩ := by rfl
theorem zero_ag : Mod.agOf Mod.hd0.o Mod.hd0.num ⟨List.range 24, fun _ => []⟩ = { epoch := 1, ticks := 0, welcome := false, fenced := false, fl := fun _ => { base := 0, kept := [], held := [] } } := by
  unfold Mod.agOf
  congr 1
  funext i
  split
  · have : Mod.hd0.num i = 0 := by
      unfold Mod.Hd.num
      repeat' split
      all_goals rfl
    rw [this]
    rfl
  · rfl
theorem cyOpen_zero {w : World} (bs : Value) (hat : BytesAt w bs (List.replicate 1664 0)) :
    Calls Tryz.prog 37 #[bs] w fun r w' =>
      ∃ v U, r = .returned (.tuple #[ptrTo v, .int .i64 0]) ∧ CyAt 1 1 0 w' v { epoch := 1, ticks := 0, welcome := false, fenced := false, fl := fun _ => { base := 0, kept := [], held := [] } } U ∧ Below w.heap.size w w' ∧ ∀ k, U k → w.heap.size ≤ k := by
  have ho := Mod.openSt_nought 26 (by omega)
  rw [← zero_ag]
  exact cyOpen_of bs _ hat (by rw [List.length_replicate]) ho zero_ld (fun i _ => by
    have : Mod.hd0.num i = 0 := by
      unfold Mod.Hd.num
      repeat' split
      all_goals rfl
    show Mod.okP [] (Mod.hd0.num i) = true
    rw [this]
    rfl)
end Go.Proofs.YtamafdcnbcoegaaGreat
namespace Go.Proofs.YtamafdcnbcoegaaGreat
open Go.RowKit

/-- A program's agent, as its callers see it, on a disk that may fail: what does not ask for Deliver, nor for Tick. -/
structure AgentF where
  At : (op ct n : Nat) → World → Nat → Mod.Ag → (Nat → Prop) → Prop
  Dd : Nat → World → Nat → Mod.Ag → (Nat → Prop) → Prop
  lt : ∀ {op ct n w v a U}, At op ct n w v a U → ∀ k, U k → k < w.heap.size
  far : ∀ {op ct n w w' v a U E}, At op ct n w v a U → Far E w w' → (∀ k, U k → ¬ E k) → At op ct n w' v a U
  ltD : ∀ {op w v a U}, Dd op w v a U → ∀ k, U k → k < w.heap.size
  farD : ∀ {op w w' v a U E}, Dd op w v a U → Far E w w' → (∀ k, U k → ¬ E k) → Dd op w' v a U
  ep : ∀ {op ct n w v a U}, At op ct n w v a U → a.epoch = op
  submit : ∀ {op ct n w v a U N} (i : Int) (s : ByteArray), At op ct n w v a U → AgGood N a → N < 1000000000 → ct + 1000 < 18446744073709551616 → n ≠ 1 → Calls Tryz.prog 21 #[ptrTo v, .int .i64 i, .string s] w fun r w' =>
    ∃ U' n', r = .returned (.int .i64 (a.refuses i s.size)) ∧ (n = 0 → n' = 0) ∧ At op (ct + 1) n' w' v (agSubmits a i s) U' ∧ Far U w w' ∧ ∀ k, U' k → U k ∨ w.heap.size ≤ k
  bad : ∀ {op ct w v a U N} (i : Int) (s : ByteArray), At op ct 1 w v a U → AgGood N a → N < 1000000000 → a.refuses i s.size = 0 → Calls Tryz.prog 21 #[ptrTo v, .int .i64 i, .string s] w fun r w' =>
    ∃ U', r = .returned (.int .i64 4) ∧ Dd op w' v a U' ∧ Far U w w' ∧ ∀ k, U' k → U k ∨ w.heap.size ≤ k
  deadSubmit : ∀ {op w v a U} (i : Int) (s : ByteArray), Dd op w v a U → Calls Tryz.prog 21 #[ptrTo v, .int .i64 i, .string s] w fun r w' => r = .returned (.int .i64 3) ∧ w' = w
  deadDeliver : ∀ {op w v a U} (bs : Value), Dd op w v a U → Calls Tryz.prog 28 #[ptrTo v, bs] w fun r w' => r = .returned (.int .i64 3) ∧ w' = w
  deadTick : ∀ {op w v a U}, Dd op w v a U → a.ticks ≤ 1000000000 → Calls Tryz.prog 24 #[ptrTo v] w fun r w' =>
    ∃ U', r = .returned (.slice none 0 0) ∧ Dd op w' v { a with ticks := a.ticks + 1 } U' ∧ Far U w w' ∧ ∀ k, U' k → U k ∨ w.heap.size ≤ k
  epoch : ∀ {op ct w v a U}, At op ct 0 w v a U → Calls Tryz.prog 39 #[ptrTo v] w fun r w' => r = .returned (.int .i64 a.epoch) ∧ Below w.heap.size w w'
  spool : ∀ {op ct w v a U} (i : Int), At op ct 0 w v a U → Calls Tryz.prog 26 #[ptrTo v, .int .i64 i] w fun r w' =>
    ∃ lv, r = .returned lv ∧ w'.ownsRow w.heap.size 9 1 lv (agSpools a i).length (strs (agSpools a i)) ∧ Below w.heap.size w w'
  arm : ∀ {op ct n w v a U} (m : Int), At op ct n w v a U → m ≤ 9223372036854775807 → Calls Tryz.prog 34 #[ptrTo v, .int .i64 m] w fun r w' => r = .returned (.tuple #[]) ∧ At op ct m.toNat w' v a U ∧ Far U w w'
  img : ∀ {op ct n w v a U}, At op ct n w v a U → ∃ (L : List UInt8) (c2 hd : Nat) (free : List Nat) (pl : Nat → List Nat), Mod.AgDisk L op c2 hd a free pl ∧ Mod.Places a free pl ∧ ∀ x, Below w.heap.size w x → ∀ keep : Int,
    Calls Tryz.prog 29 #[ptrTo v, .int .u64 keep] x fun r y => ∃ v', r = .returned v' ∧ Owns x.heap.size y v' L ∧ Below x.heap.size x y
  imgD : ∀ {op w v a U}, Dd op w v a U → a.epoch = op ∧ ∃ (L : List UInt8) (c2 hd : Nat) (free : List Nat) (pl : Nat → List Nat), Mod.AgDisk L op c2 hd a free pl ∧ Mod.Places a free pl ∧ ∀ x, Below w.heap.size w x → ∀ keep : Int,
    Calls Tryz.prog 29 #[ptrTo v, .int .u64 keep] x fun r y => ∃ v', r = .returned v' ∧ Owns x.heap.size y v' L ∧ Below x.heap.size x y
  opened : ∀ {w} (bs : Value) (L : List UInt8) {op c2 hd : Nat} {a : Mod.Ag} {free : List Nat} {pl : Nat → List Nat}, BytesAt w bs L → Mod.AgDisk L op c2 hd a free pl → Mod.Places a free pl → a.epoch = op → op ≤ 1073741824 → (∀ i, i < 3 → (a.fl i).base + (a.fl i).kept.length ≤ 1073741824) →
    Calls Tryz.prog 37 #[bs] w fun r w' => ∃ v U, r = .returned (.tuple #[ptrTo v, .int .i64 0]) ∧ At (op + 1) 1 0 w' v (Mod.reop a) U ∧ Below w.heap.size w w' ∧ ∀ k, U k → w.heap.size ≤ k
  zero : ∀ {w} (bs : Value), BytesAt w bs (List.replicate 1664 0) → Calls Tryz.prog 37 #[bs] w fun r w' =>
    ∃ v U, r = .returned (.tuple #[ptrTo v, .int .i64 0]) ∧ At 1 1 0 w' v { epoch := 1, ticks := 0, welcome := false, fenced := false, fl := fun _ => { base := 0, kept := [], held := [] } } U ∧ Below w.heap.size w w' ∧ ∀ k, U k → w.heap.size ≤ k

/-- The program's agent. -/
def theAgentF : AgentF where
  At := CyAt
  Dd := CyDd
  lt := cyAt_lt
  far := cyAt_far
  ltD := cyDd_lt
  farD := cyDd_far
  ep := cyAt_ep
  submit := cySubmit
  bad := cySubmit_bad
  deadSubmit := cyDeadSubmit
  deadDeliver := cyDeadDeliver
  deadTick := cyDeadTick
  epoch := fun h => caEpoch_any (cyAt_plain h)
  spool := fun i h => caSpool_any i (cyAt_plain h)
  arm := cyArm
  img := cyImg
  imgD := cyImgD
  opened := cyOpen
  zero := cyOpen_zero
end Go.Proofs.YtamafdcnbcoegaaGreat
