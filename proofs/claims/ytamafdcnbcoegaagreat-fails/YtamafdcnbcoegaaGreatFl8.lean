/-
  Part 8 of a proof: E2, E4, E5, E6, L31, D18.
-/
import Derived.Test.YtamafdcnbcoegaaGreatFl7
namespace Go.Proofs.YtamafdcnbcoegaaGreat
namespace Mod

/-- What another head sector may be beside the one that counts. -/
def Older (S : List UInt8) (op c : Nat) : Prop := S = nought ∨ ∃ h : Hd, 1 ≤ h.o ∧ h.o ≤ op ∧ h.c < 18446744073709551616 ∧ h.small = true ∧ (h.o < op ∨ h.c < c) ∧ S = sealH h
/-- A disk of m sectors in order: the opening that wrote it last, its count, the head that counts, the numbers. -/
structure DiskOk (L : List UInt8) (op ct hd : Nat) (g : Nat → Nat) (m : Nat) : Prop where
  len : L.length = m * 64
  two : 2 ≤ m
  hd1 : hd ≤ 1
  op1 : 1 ≤ op
  opm : op < 4294967296
  ctm : ct < 18446744073709551616
  sm : ∀ i, i < 3 → g i ≤ 2147483647
  hs : ∃ c, c ≤ ct ∧ sec L hd = sealH ⟨op, c, g 0, g 1, g 2⟩ ∧ Older (sec L (1 - hd)) op c
theorem newer2_of {h g : Hd} (H : g.o < h.o ∨ g.o = h.o ∧ g.c < h.c) : newer2 h g = true ∧ newer2 g h = false := by
  unfold newer2
  rcases H with H | ⟨H, H2⟩
  · rw [if_pos (by omega), if_pos (by omega)]; simp; omega
  · rw [if_neg (by omega), if_neg (by omega)]; simp; omega
theorem Older.head {S : List UInt8} {op c : Nat} (h : Older S op c) (hop : op ≤ 1073741824) (hop1 : 1 ≤ op) : headOk S = true ∧ ((headIs S).o < op ∨ (headIs S).o = op ∧ (headIs S).c < c) := by
  rcases h with rfl | ⟨h, h1, h2, h3, h4, h5, rfl⟩
  · exact ⟨headOk_nought.1, .inl (by rw [headOk_nought.2]; exact hop1)⟩
  · have := headOk_seal (h := h) (by simp [isStamp]; omega) h3 h4
    refine ⟨this.1, ?_⟩
    rw [this.2]
    omega
theorem small_of {a b d : Nat} {o c : Nat} (ha : a ≤ 2147483647) (hb : b ≤ 2147483647) (hd : d ≤ 2147483647) : Hd.small ⟨o, c, a, b, d⟩ = true := by simp [Hd.small]; omega
/-- The head that counts is found. -/
theorem DiskOk.newest {L : List UInt8} {op ct hd : Nat} {g : Nat → Nat} {m : Nat} (h : DiskOk L op ct hd g m) (hop : op ≤ 1073741824) : ∃ c, newest L = some (⟨op, c, g 0, g 1, g 2⟩, hd) := by
  obtain ⟨c, h1, h2, h3⟩ := h.hs
  have s := headOk_seal (h := ⟨op, c, g 0, g 1, g 2⟩) (by have := h.op1; simp [isStamp]; omega) (by have := h.ctm; show c < _; omega) (small_of (h.sm 0 (by omega)) (h.sm 1 (by omega)) (h.sm 2 (by omega)))
  obtain ⟨o1, o2⟩ := h3.head hop h.op1
  refine ⟨c, ?_⟩
  have hh := h.hd1
  obtain rfl | rfl : hd = 0 ∨ hd = 1 := by omega
  · have hn := newer2_of (h := ⟨op, c, g 0, g 1, g 2⟩) (g := headIs (sec L 1)) o2
    unfold Mod.newest
    rw [h2, s.1, s.2, show sec L 1 = sec L (1 - 0) from rfl, o1]
    rw [if_pos ⟨rfl, rfl⟩, show headIs (sec L (1 - 0)) = headIs (sec L 1) from rfl, hn.2, if_neg (by simp), hn.1, if_pos rfl]
  · have hn := newer2_of (h := ⟨op, c, g 0, g 1, g 2⟩) (g := headIs (sec L 0)) o2
    unfold Mod.newest
    rw [h2, s.1, s.2, show sec L 0 = sec L (1 - 1) from rfl, o1]
    rw [if_pos ⟨rfl, rfl⟩, show headIs (sec L (1 - 1)) = headIs (sec L 0) from rfl, hn.1, if_pos rfl]
/-- Numbers are written. -/
theorem DiskOk.numbers {L : List UInt8} {op ct hd : Nat} {g g' : Nat → Nat} {m : Nat} (h : DiskOk L op ct hd g m) (hg : ∀ i, i < 3 → g' i ≤ 2147483647) (hct : ct + 1 < 18446744073709551616) :
    DiskOk (setSec L (1 - hd) (sealH ⟨op, ct + 1, g' 0, g' 1, g' 2⟩)) op (ct + 1) (1 - hd) g' m := by
  obtain ⟨c, h1, h2, h3⟩ := h.hs
  have hl := h.len
  have htw := h.two
  have hh := h.hd1
  have hS := length_sealH ⟨op, ct + 1, g' 0, g' 1, g' 2⟩
  refine ⟨by rw [length_setSec hS (by omega)]; exact hl, htw, by omega, h.op1, h.opm, hct, hg, ct + 1, Nat.le_refl _, sec_set hS (by omega), ?_⟩
  rw [sec_other hS (by omega) (by omega), show 1 - (1 - hd) = hd by omega, h2]
  exact .inr ⟨⟨op, c, g 0, g 1, g 2⟩, h.op1, Nat.le_refl _, by have := h.ctm; show c < _; omega, small_of (h.sm 0 (by omega)) (h.sm 1 (by omega)) (h.sm 2 (by omega)), .inr (by show c < ct + 1; omega), rfl⟩
/-- A sector behind the heads is written. -/
theorem DiskOk.record {L : List UInt8} {op ct hd : Nat} {g : Nat → Nat} {m : Nat} (h : DiskOk L op ct hd g m) {x : Nat} {S : List UInt8} (hS : S.length = 64) (hx : 2 + x < m) (hct : ct + 1 < 18446744073709551616) :
    DiskOk (setSec L (2 + x) S) op (ct + 1) hd g m := by
  obtain ⟨c, h1, h2, h3⟩ := h.hs
  have hl := h.len
  have hh := h.hd1
  refine ⟨by rw [length_setSec hS (by omega)]; exact hl, h.two, hh, h.op1, h.opm, hct, h.sm, c, by omega, ?_, ?_⟩
  · rw [sec_other hS (by omega) (by omega)]; exact h2
  · rw [sec_other hS (by omega) (by omega)]; exact h3
/-- A head that counts is of noughts, or written so. -/
theorem newest_some {L : List UInt8} {h : Hd} {at' : Nat} (H : newest L = some (h, at')) : at' ≤ 1 ∧ headOk (sec L at') = true ∧ h = headIs (sec L at') ∧ headOk (sec L (1 - at')) = true := by
  unfold newest at H
  split at H
  · rename_i hk
    split at H
    · cases H
      exact ⟨by omega, hk.2, rfl, hk.1⟩
    · split at H
      · cases H
        exact ⟨by omega, hk.1, rfl, hk.2⟩
      · split at H
        · rename_i h0
          cases H
          refine ⟨by omega, hk.1, ?_, hk.2⟩
          rcases headOk_some hk.1 with ⟨_, e⟩ | ⟨e, _⟩
          · exact e.symm
          · rw [h0.1] at e; cases e
        · cases H
  · cases H
theorem headIs_small {S : List UInt8} (h : headOk S = true) : (headIs S).o ≤ 1073741824 ∧ (headIs S).c < 18446744073709551616 ∧ (headIs S).a ≤ 2147483647 ∧ (headIs S).b ≤ 2147483647 ∧ (headIs S).d ≤ 2147483647 := by
  rcases headOk_some h with ⟨_, e⟩ | ⟨e1, e2, e3, _⟩
  · rw [e]; simp [hd0]
  · have h1 : 1 ≤ (headIs S).o ∧ (headIs S).o ≤ 1073741824 := by simpa [isStamp] using e1
    have h2 : (headIs S).a ≤ 2147483647 ∧ (headIs S).b ≤ 2147483647 ∧ (headIs S).d ≤ 2147483647 := by simpa [Hd.small] using e3
    exact ⟨h1.2, e2, h2⟩
/-- The numbers of a head. -/
def Hd.num (h : Hd) (i : Nat) : Nat := if i = 0 then h.a else if i = 1 then h.b else h.d
/-- What an opening makes of a disk. -/
def openL (L : List UInt8) (h : Hd) (at' : Nat) : List UInt8 := setSec L (1 - at') (sealH ⟨h.o + 1, 1, h.a, h.b, h.d⟩)
theorem opened_ok {L : List UInt8} {h : Hd} {at' m : Nat} (H : newest L = some (h, at')) (hl : L.length = m * 64) (hm : 2 ≤ m) : DiskOk (openL L h at') (h.o + 1) 1 (1 - at') h.num m := by
  obtain ⟨h1, h2, rfl, h3⟩ := newest_some H
  have hs := headIs_small h2
  have hS := length_sealH ⟨(headIs (sec L at')).o + 1, 1, (headIs (sec L at')).a, (headIs (sec L at')).b, (headIs (sec L at')).d⟩
  refine ⟨by unfold openL; rw [length_setSec hS (by omega)]; exact hl, hm, by omega, by omega, by omega, by omega, ?_, 1, Nat.le_refl _, sec_set hS (by omega), ?_⟩
  · intro i _
    unfold Hd.num
    split
    · omega
    · split <;> omega
  · unfold openL
    rw [sec_other hS (by omega) (by omega), show 1 - (1 - at') = at' by omega]
    rcases headOk_some h2 with ⟨e, _⟩ | ⟨e1, e2, e3, e4⟩
    · exact .inl e
    · have h1 : 1 ≤ (headIs (sec L at')).o ∧ (headIs (sec L at')).o ≤ 1073741824 := by simpa [isStamp] using e1
      exact .inr ⟨_, h1.1, by omega, e2, e3, .inl (by omega), e4⟩
theorem openL_other {L : List UInt8} {h : Hd} {at' m : Nat} (hl : L.length = m * 64) (hm : 2 ≤ m) {k : Nat} (hk : 2 ≤ k) : sec (openL L h at') k = sec L k := by
  unfold openL
  exact sec_other (length_sealH _) (by omega) (by omega)
/-- The records behind the heads are found. -/
theorem recsFrom_at {L : List UInt8} {last : Nat} (hlast : last ≤ 1073741824) (r : Nat → Rc) : ∀ (n x : Nat), (∀ y, x ≤ y → y < x + n → RecAt (sec L (2 + y)) last (r y)) → recsFrom L last x n = some ((List.range n).map fun j => r (x + j))
  | 0, _, _ => rfl
  | n + 1, x, h => by
    obtain ⟨h1, h2⟩ := recOk_at (h x (Nat.le_refl _) (by omega)) hlast
    have ih := recsFrom_at hlast r n (x + 1) (fun y hy hy2 => h y (by omega) (by omega))
    rw [recsFrom, if_pos h1, h2, ih, List.range_succ_eq_map]
    simp
    intro a _
    rw [Nat.add_assoc, Nat.add_comm 1 a]
theorem recsFrom_some {L : List UInt8} {last : Nat} : ∀ (n x : Nat) {rs : List Rc}, recsFrom L last x n = some rs → rs.length = n ∧ ∀ y, y < n → recOk (sec L (2 + (x + y))) last = true ∧ rs[y]? = some (recIs (sec L (2 + (x + y))))
  | 0, _, rs, h => by cases h; exact ⟨rfl, fun y hy => by omega⟩
  | n + 1, x, rs, h => by
    rw [recsFrom] at h
    split at h
    · rename_i hk
      cases hr : recsFrom L last (x + 1) n with
      | none => rw [hr] at h; cases h
      | some rs' =>
        rw [hr] at h
        cases h
        obtain ⟨i1, i2⟩ := recsFrom_some n (x + 1) hr
        refine ⟨by simp [i1], fun y hy => ?_⟩
        cases y with
        | zero => exact ⟨hk, rfl⟩
        | succ y =>
          have := i2 y (by omega)
          rw [show x + (y + 1) = x + 1 + y by omega]
          exact ⟨this.1, by rw [List.getElem?_cons_succ]; exact this.2⟩
    · cases h
/-- What an opening finds on a disk: the head that counts, where, the records. -/
def openSt (L : List UInt8) : Option (Hd × Nat × List Rc) :=
  match newest L with
  | none => none
  | some (h, at') => match recsFrom L h.o 0 (L.length / 64 - 2) with
    | none => none
    | some rs => some (h, at', rs)
theorem openSt_some {L : List UInt8} {h : Hd} {at' : Nat} {rs : List Rc} (H : openSt L = some (h, at', rs)) : newest L = some (h, at') ∧ recsFrom L h.o 0 (L.length / 64 - 2) = some rs := by
  unfold openSt at H
  cases hn : newest L with
  | none => rw [hn] at H; cases H
  | some p =>
    obtain ⟨h', a'⟩ := p
    rw [hn] at H
    simp only at H
    cases hr : recsFrom L h'.o 0 (L.length / 64 - 2) with
    | none => rw [hr] at H; cases H
    | some rs' => rw [hr] at H; cases H; exact ⟨rfl, hr⟩
theorem openSt_of {L : List UInt8} {h : Hd} {at' : Nat} {rs : List Rc} (h1 : newest L = some (h, at')) (h2 : recsFrom L h.o 0 (L.length / 64 - 2) = some rs) : openSt L = some (h, at', rs) := by
  unfold openSt
  rw [h1]
  simp only
  rw [h2]
/-- A disk in order is opened. -/
theorem DiskOk.opens {L : List UInt8} {op ct hd : Nat} {g : Nat → Nat} {m : Nat} (h : DiskOk L op ct hd g m) (hop : op ≤ 1073741824) (r : Nat → Rc) (hr : ∀ x, x < m - 2 → RecAt (sec L (2 + x)) op (r x)) :
    ∃ c, openSt L = some (⟨op, c, g 0, g 1, g 2⟩, hd, (List.range (m - 2)).map r) := by
  obtain ⟨c, hn⟩ := h.newest hop
  refine ⟨c, openSt_of hn ?_⟩
  rw [show L.length / 64 = m by have := h.len; omega]
  have := recsFrom_at (L := L) hop r (m - 2) 0 (fun y _ hy => hr y (by omega))
  simpa using this
theorem nought_sec (n k : Nat) (h : k * 64 + 64 ≤ n) : sec (List.replicate n 0) k = nought := by
  unfold sec nought
  rw [List.drop_replicate, List.take_replicate]
  congr 1
  omega
/-- Noughts are opened. -/
theorem openSt_nought (m : Nat) (hm : 2 ≤ m) : openSt (List.replicate (m * 64) 0) = some (hd0, 0, (List.range (m - 2)).map fun _ => rc0) := by
  have h0 := nought_sec (m * 64) 0 (by omega)
  have h1 := nought_sec (m * 64) 1 (by omega)
  have hn : newest (List.replicate (m * 64) 0) = some (hd0, 0) := by
    unfold newest
    rw [h0, h1, headOk_nought.1, headOk_nought.2]
    rfl
  refine openSt_of hn ?_
  have := recsFrom_at (L := List.replicate (m * 64) 0) (last := 0) (by omega) (fun _ => rc0) (m - 2) 0 (fun y _ hy => .inl ⟨nought_sec _ _ (by omega), rfl⟩)
  rw [List.length_replicate, Nat.mul_div_cancel _ (by omega : 0 < 64)]
  exact this
end Mod
end Go.Proofs.YtamafdcnbcoegaaGreat
namespace Go.Proofs.YtamafdcnbcoegaaGreat
namespace Mod

/-- A record that is kept: its number, its bytes, its place. -/
abbrev Pe := Nat × ByteArray × Nat
def insP : List Pe → Pe → List Pe
  | [], e => [e]
  | y :: r, e => if e.1 = y.1 then e :: r else if e.1 < y.1 then e :: y :: r else y :: insP r e
structure Ld where
  free : List Nat
  sh : Nat → List Pe
def ldStep (g : Nat → Nat) (x : Nat) (r : Rc) (l : Ld) : Option Ld :=
  if r.q ≤ g r.s then some { l with free := l.free ++ [x] }
  else if ((l.sh r.s).map (·.1)).contains r.q = true then none
  else some { l with sh := fun i => if i = r.s then insP (l.sh r.s) (r.q, r.b, x) else l.sh i }
def ldAll (g : Nat → Nat) : List Rc → Nat → Ld → Option Ld
  | [], _, l => some l
  | r :: rs, x, l => match ldStep g x r l with
    | none => none
    | some l' => ldAll g rs (x + 1) l'
def lastP (l : List Pe) (b : Nat) : Nat := max (match l.getLast? with | none => 0 | some x => x.1) b
def okP (l : List Pe) (b : Nat) : Bool := decide (lastP l b ≤ 1073741824) && decide (lastP l b = b + l.length)
def ld0 : Ld := ⟨[], fun _ => []⟩
/-- The agent that comes of what was loaded. -/
def agOf (op : Nat) (g : Nat → Nat) (l : Ld) : Ag := { epoch := op + 1, ticks := 0, welcome := false, fenced := false, fl := fun i => if i < 3 then { base := g i, kept := (l.sh i).map fun e => (e.2.1, 0), held := [] } else { base := 0, kept := [], held := [] } }
/-- What an agent's disk has. -/
def agLoad (L : List UInt8) : Option Ag :=
  match openSt L with
  | none => none
  | some (h, _, rs) => match ldAll h.num rs 0 ld0 with
    | none => none
    | some l => if okP (l.sh 0) (h.num 0) = true ∧ okP (l.sh 1) (h.num 1) = true ∧ okP (l.sh 2) (h.num 2) = true then some (agOf h.o h.num l) else none
/-- The records that are kept of a stream, with their places. -/
def keptP : Nat → List (ByteArray × Nat) → List Nat → List Pe
  | b, x :: r, q :: qs => (b + 1, x.1, q) :: keptP (b + 1) r qs
  | _, _, _ => []
theorem keptP_length : ∀ (b : Nat) (k : List (ByteArray × Nat)) (p : List Nat), p.length = k.length → (keptP b k p).length = k.length
  | _, [], [], _ => rfl
  | b, _ :: r, _ :: qs, h => by rw [keptP, List.length_cons, keptP_length (b + 1) r qs (by simpa using h), List.length_cons]
theorem keptP_get : ∀ (b : Nat) (k : List (ByteArray × Nat)) (p : List Nat) (j : Nat) (e : Pe), (keptP b k p)[j]? = some e → e.1 = b + 1 + j ∧ (∃ t, k[j]? = some (e.2.1, t)) ∧ p[j]? = some e.2.2
  | _, [], _, j, e, h => by simp [keptP] at h
  | _, _ :: _, [], j, e, h => by simp [keptP] at h
  | b, x :: r, q :: qs, 0, e, h => by
    simp [keptP] at h
    subst h
    exact ⟨rfl, ⟨x.2, rfl⟩, rfl⟩
  | b, x :: r, q :: qs, j + 1, e, h => by
    rw [keptP, List.getElem?_cons_succ] at h
    obtain ⟨h1, h2, h3⟩ := keptP_get (b + 1) r qs j e h
    exact ⟨by omega, h2, h3⟩
theorem keptP_gt : ∀ (b : Nat) (k : List (ByteArray × Nat)) (p : List Nat), ∀ e ∈ keptP b k p, b < e.1
  | _, [], _, e, h => by simp [keptP] at h
  | _, _ :: _, [], e, h => by simp [keptP] at h
  | b, x :: r, q :: qs, e, h => by
    rw [keptP] at h
    cases h with
    | head => show b < b + 1; omega
    | tail _ h => have := keptP_gt (b + 1) r qs e h; omega
theorem keptP_sorted : ∀ (b : Nat) (k : List (ByteArray × Nat)) (p : List Nat), (keptP b k p).Pairwise (fun x y => x.1 < y.1)
  | _, [], _ => by simp [keptP]
  | _, _ :: _, [] => by simp [keptP]
  | b, x :: r, q :: qs => by
    rw [keptP, List.pairwise_cons]
    exact ⟨fun e he => keptP_gt (b + 1) r qs e he, keptP_sorted (b + 1) r qs⟩
theorem keptP_places : ∀ (b : Nat) (k : List (ByteArray × Nat)) (p : List Nat), p.length = k.length → (keptP b k p).map (·.2.2) = p
  | _, [], [], _ => rfl
  | b, _ :: r, q :: qs, h => by rw [keptP, List.map_cons, keptP_places (b + 1) r qs (by simpa using h)]
theorem keptP_bodies : ∀ (b : Nat) (k : List (ByteArray × Nat)) (p : List Nat), p.length = k.length → (keptP b k p).map (·.2.1) = k.map (·.1)
  | _, [], [], _ => rfl
  | b, _ :: r, q :: qs, h => by rw [keptP, List.map_cons, keptP_bodies (b + 1) r qs (by simpa using h)]; rfl
theorem keptP_lastP (b : Nat) (k : List (ByteArray × Nat)) (p : List Nat) (h : p.length = k.length) : lastP (keptP b k p) b = b + k.length := by
  have hl := keptP_length b k p h
  unfold lastP
  rw [List.getLast?_eq_getElem?]
  cases hg : (keptP b k p)[(keptP b k p).length - 1]? with
  | none =>
    have := List.getElem?_eq_none_iff.1 hg
    simp only
    omega
  | some e =>
    have h1 := (keptP_get _ _ _ _ _ hg).1
    have h2 := (List.getElem?_eq_some_iff.1 hg).1
    simp only
    omega
theorem insP_front {l : List Pe} {e : Pe} (h : ∀ y ∈ l, e.1 < y.1) : insP l e = e :: l := by
  cases l with
  | nil => rfl
  | cons y r =>
    have := h y (.head _)
    rw [insP, if_neg (by omega), if_pos this]
/-- One record more of those that a test takes. -/
theorem insP_filter {p p' : Pe → Bool} {e : Pe} : ∀ (l : List Pe), l.Pairwise (fun x y => x.1 < y.1) → e ∈ l → p e = false → p' e = true → (∀ y ∈ l, y.1 ≠ e.1 → p' y = p y) → l.filter p' = insP (l.filter p) e
  | [], _, h, _, _, _ => by cases h
  | y :: r, hs, hm, h1, h2, h3 => by
    rw [List.pairwise_cons] at hs
    by_cases hy : y.1 = e.1
    · have hye : y = e := by
        cases hm with
        | head => rfl
        | tail _ hm => have := hs.1 e hm; omega
      subst hye
      have hr : r.filter p' = r.filter p := List.filter_congr fun z hz => h3 z (.tail _ hz) (by have := hs.1 z hz; omega)
      rw [List.filter_cons_of_pos h2, List.filter_cons_of_neg (by simp [h1]), hr]
      exact (insP_front fun z hz => hs.1 z (List.mem_filter.1 hz).1).symm
    · have hm' : e ∈ r := by
        cases hm with
        | head => exact absurd rfl hy
        | tail _ hm => exact hm
      have hlt := hs.1 e hm'
      have ih := insP_filter r hs.2 hm' h1 h2 (fun z hz => h3 z (.tail _ hz))
      have hpy := h3 y (.head _) hy
      cases hp : p y with
      | true =>
        rw [List.filter_cons_of_pos (by rw [hpy, hp]), List.filter_cons_of_pos hp, ih, insP, if_neg (by omega), if_neg (by omega)]
      | false =>
        rw [List.filter_cons_of_neg (by rw [hpy, hp]; simp), List.filter_cons_of_neg (by simp [hp]), ih]
/-- Where what is kept lies on an agent's disk. -/
structure Places (a : Ag) (free : List Nat) (pl : Nat → List Nat) : Prop where
  pn : ∀ i, i < 3 → (pl i).length = (a.fl i).kept.length
  nd : (free ++ pl 0 ++ pl 1 ++ pl 2).Nodup
  lt : ∀ x ∈ free ++ pl 0 ++ pl 1 ++ pl 2, x < 24
  sum : free.length + a.room = 24
/-- An agent's disk in order. -/
structure AgDisk (L : List UInt8) (op ct hd : Nat) (a : Ag) (free : List Nat) (pl : Nat → List Nat) : Prop where
  ok : DiskOk L op ct hd (fun i => (a.fl i).base) 26
  rcs : ∃ rc : Nat → Rc, (∀ x, x < 24 → RecAt (sec L (2 + x)) op (rc x)) ∧ (∀ i, i < 3 → ∀ e ∈ keptP (a.fl i).base (a.fl i).kept (pl i), rc e.2.2 = ⟨i, e.1, e.2.1⟩) ∧ ∀ x ∈ free, (rc x).s < 3 ∧ (rc x).q ≤ (a.fl (rc x).s).base
theorem nodupLt : ∀ (n : Nat) (l : List Nat), l.Nodup → (∀ x ∈ l, x < n) → l.length ≤ n
  | 0, [], _, _ => Nat.le_refl _
  | 0, x :: l, _, h => by have := h x (.head _); omega
  | n + 1, l, hn, h => by
    by_cases hm : n ∈ l
    · have h1 := nodupLt n (l.erase n) (hn.erase n) (fun x hx => by
        have h2 := h x (List.mem_of_mem_erase hx)
        have h3 : x ≠ n := fun e => by
          subst e
          exact (List.Nodup.not_mem_erase hn) hx
        omega)
      have := List.length_erase_of_mem hm
      omega
    · have := nodupLt n l hn (fun x hx => by
        have h2 := h x hx
        have h3 : x ≠ n := fun e => hm (by rw [← e]; exact hx)
        omega)
      omega
theorem all_places {l : List Nat} {n : Nat} (hn : l.Nodup) (hl : ∀ x ∈ l, x < n) (hc : l.length = n) : ∀ x, x < n → x ∈ l := by
  intro x hx
  apply Classical.byContradiction
  intro hm
  have := nodupLt n (x :: l) (List.nodup_cons.2 ⟨hm, hn⟩) (fun y hy => by
    cases hy with
    | head => exact hx
    | tail _ hy => exact hl y hy)
  simp at this
  omega
theorem nodup_ix {l : List Nat} (hn : l.Nodup) {i j x : Nat} (hi : l[i]? = some x) (hj : l[j]? = some x) : i = j := by
  obtain ⟨h1, e1⟩ := List.getElem?_eq_some_iff.1 hi
  obtain ⟨h2, e2⟩ := List.getElem?_eq_some_iff.1 hj
  rw [List.Nodup, List.pairwise_iff_getElem] at hn
  rcases Nat.lt_trichotomy i j with h | h | h
  · exact absurd (e1.trans e2.symm) (hn i j h1 h2 h)
  · exact h
  · exact absurd (e2.trans e1.symm) (hn j i h2 h1 h)
theorem Places.all {a : Ag} {free : List Nat} {pl : Nat → List Nat} (P : Places a free pl) : ∀ x, x < 24 → x ∈ free ∨ ∃ i, i < 3 ∧ x ∈ pl i := by
  have h0 := P.pn 0 (by omega)
  have h1 := P.pn 1 (by omega)
  have h2 := P.pn 2 (by omega)
  have hs := P.sum
  unfold Ag.room at hs
  intro x hx
  have := all_places P.nd P.lt (by simp; omega) x hx
  simp at this
  rcases this with h | h | h | h
  · exact .inl h
  · exact .inr ⟨0, by omega, h⟩
  · exact .inr ⟨1, by omega, h⟩
  · exact .inr ⟨2, by omega, h⟩
theorem Places.apart {a : Ag} {free : List Nat} {pl : Nat → List Nat} (P : Places a free pl) : (∀ i, i < 3 → (pl i).Nodup) ∧ (∀ x ∈ free, ∀ i, i < 3 → x ∉ pl i) ∧ ∀ i j, i < 3 → j < 3 → i ≠ j → ∀ x ∈ pl i, x ∉ pl j := by
  have hnd := P.nd
  rw [List.nodup_append, List.nodup_append, List.nodup_append] at hnd
  obtain ⟨⟨⟨n0, n1, n2⟩, n3, n4⟩, n5, n6⟩ := hnd
  refine ⟨fun i hi => ?_, fun x hx i hi hm => ?_, fun i j hi hj hne x hx hm => ?_⟩
  · obtain rfl | rfl | rfl : i = 0 ∨ i = 1 ∨ i = 2 := by omega
    · exact n1
    · exact n3
    · exact n5
  · obtain rfl | rfl | rfl : i = 0 ∨ i = 1 ∨ i = 2 := by omega
    · exact n2 x hx x hm rfl
    · exact n4 x (by simp [hx]) x hm rfl
    · exact n6 x (by simp [hx]) x hm rfl
  · obtain rfl | rfl | rfl : i = 0 ∨ i = 1 ∨ i = 2 := by omega
    all_goals obtain rfl | rfl | rfl : j = 0 ∨ j = 1 ∨ j = 2 := by omega
    · exact hne rfl
    · exact n4 x (by simp [hx]) x hm rfl
    · exact n6 x (by simp [hx]) x hm rfl
    · exact n4 x (by simp [hm]) x hx rfl
    · exact hne rfl
    · exact n6 x (by simp [hx]) x hm rfl
    · exact n6 x (by simp [hm]) x hx rfl
    · exact n6 x (by simp [hm]) x hx rfl
    · exact hne rfl
/-- Loading a disk in order, place by place. -/
theorem ldAll_disk {a : Ag} {free : List Nat} {pl : Nat → List Nat} (P : Places a free pl) (rc : Nat → Rc) (hk : ∀ i, i < 3 → ∀ e ∈ keptP (a.fl i).base (a.fl i).kept (pl i), rc e.2.2 = ⟨i, e.1, e.2.1⟩) (hf : ∀ x ∈ free, (rc x).q ≤ (a.fl (rc x).s).base) :
    ∀ (n x : Nat) (l : Ld), x + n = 24 → (∀ i, i < 3 → l.sh i = (keptP (a.fl i).base (a.fl i).kept (pl i)).filter fun e => decide (e.2.2 < x)) →
      ∃ l', ldAll (fun i => (a.fl i).base) ((List.range n).map fun j => rc (x + j)) x l = some l' ∧ ∀ i, i < 3 → l'.sh i = keptP (a.fl i).base (a.fl i).kept (pl i) := by
  intro n
  induction n with
  | zero =>
    intro x l hx hl
    refine ⟨l, rfl, fun i hi => ?_⟩
    rw [hl i hi]
    refine List.filter_eq_self.2 fun e he => ?_
    have hp : e.2.2 ∈ pl i := by
      rw [← keptP_places (a.fl i).base (a.fl i).kept (pl i) (P.pn i hi)]
      exact List.mem_map_of_mem he
    have := P.lt e.2.2 (by
      obtain rfl | rfl | rfl : i = 0 ∨ i = 1 ∨ i = 2 := by omega
      all_goals simp [hp])
    simp
    omega
  | succ n ih =>
    intro x l hx hl
    obtain ⟨p1, p2, p3⟩ := P.apart
    rw [List.range_succ_eq_map, List.map_cons, List.map_map]
    have hmap : (List.range n).map ((fun j => rc (x + j)) ∘ Nat.succ) = (List.range n).map fun j => rc (x + 1 + j) := by
      apply List.map_congr_left
      intro j _
      show rc (x + (j + 1)) = rc (x + 1 + j)
      congr 1
      omega
    rw [hmap, Nat.add_zero]
    unfold ldAll
    rcases P.all x (by omega) with hfx | ⟨i, hi, hix⟩
    · have hq := hf x hfx
      unfold ldStep
      rw [if_pos hq]
      simp only
      exact ih (x + 1) { l with free := l.free ++ [x] } (by omega) (fun i hi => by
        show l.sh i = _
        rw [hl i hi]
        refine List.filter_congr fun e he => ?_
        have hp : e.2.2 ∈ pl i := by
          rw [← keptP_places (a.fl i).base (a.fl i).kept (pl i) (P.pn i hi)]
          exact List.mem_map_of_mem he
        have hne : e.2.2 ≠ x := fun e0 => p2 x hfx i hi (by rw [← e0]; exact hp)
        rw [decide_eq_decide]
        omega)
    · obtain ⟨e, he, hex⟩ : ∃ e ∈ keptP (a.fl i).base (a.fl i).kept (pl i), e.2.2 = x := by
        rw [← keptP_places (a.fl i).base (a.fl i).kept (pl i) (P.pn i hi)] at hix
        obtain ⟨e, h1, h2⟩ := List.mem_map.1 hix
        exact ⟨e, h1, h2⟩
      have hrc := hk i hi e he
      rw [hex] at hrc
      have hgt := keptP_gt _ _ _ e he
      have hsrt := keptP_sorted (a.fl i).base (a.fl i).kept (pl i)
      have huniq : ∀ y ∈ keptP (a.fl i).base (a.fl i).kept (pl i), y.1 = e.1 → y = e := by
        intro y hy h1
        obtain ⟨j1, hj1, e1⟩ := List.mem_iff_getElem.1 hy
        obtain ⟨j2, hj2, e2⟩ := List.mem_iff_getElem.1 he
        have k1 := (keptP_get _ _ _ j1 y (by rw [List.getElem?_eq_getElem hj1, e1])).1
        have k2 := (keptP_get _ _ _ j2 e (by rw [List.getElem?_eq_getElem hj2, e2])).1
        have : j1 = j2 := by omega
        subst this
        rw [← e1, ← e2]
      have hplace : ∀ y ∈ keptP (a.fl i).base (a.fl i).kept (pl i), y.2.2 = x → y = e := by
        intro y hy h1
        obtain ⟨j1, hj1, e1⟩ := List.mem_iff_getElem.1 hy
        obtain ⟨j2, hj2, e2⟩ := List.mem_iff_getElem.1 he
        have k1 := (keptP_get _ _ _ j1 y (by rw [List.getElem?_eq_getElem hj1, e1])).2.2
        have k2 := (keptP_get _ _ _ j2 e (by rw [List.getElem?_eq_getElem hj2, e2])).2.2
        rw [h1] at k1
        rw [hex] at k2
        have : j1 = j2 := nodup_ix (p1 i hi) k1 k2
        subst this
        rw [← e1, ← e2]
      unfold ldStep
      rw [hrc]
      simp only
      rw [if_neg (by omega), hl i hi]
      have hno : (((keptP (a.fl i).base (a.fl i).kept (pl i)).filter fun e => decide (e.2.2 < x)).map (·.1)).contains e.1 = false := by
        cases hc : (((keptP (a.fl i).base (a.fl i).kept (pl i)).filter fun e => decide (e.2.2 < x)).map (·.1)).contains e.1 with
        | false => rfl
        | true =>
          rw [List.contains_iff_mem] at hc
          obtain ⟨y, hy, e1⟩ := List.mem_map.1 hc
          obtain ⟨y1, y2⟩ := List.mem_filter.1 hy
          have := huniq y y1 e1
          subst this
          simp at y2
          omega
      rw [hno, if_neg (by simp)]
      simp only
      exact ih (x + 1) { l with sh := fun k => if k = i then insP ((keptP (a.fl i).base (a.fl i).kept (pl i)).filter fun e => decide (e.2.2 < x)) (e.1, e.2.1, x) else l.sh k } (by omega) (fun k hk3 => by
        show (if k = i then _ else l.sh k) = _
        by_cases hki : k = i
        · subst hki
          rw [if_pos rfl]
          have hee : ((e.1, e.2.1, x) : Pe) = e := by rw [← hex]
          rw [hee]
          exact (insP_filter _ hsrt he (by simp; omega) (by simp; omega) (fun y hy hne => by
            have : y.2.2 ≠ x := fun h1 => hne (by rw [hplace y hy h1])
            rw [decide_eq_decide]
            omega)).symm
        · rw [if_neg hki, hl k hk3]
          refine List.filter_congr fun y hy => ?_
          have hp : y.2.2 ∈ pl k := by
            rw [← keptP_places (a.fl k).base (a.fl k).kept (pl k) (P.pn k hk3)]
            exact List.mem_map_of_mem hy
          have hne : y.2.2 ≠ x := fun e0 => p3 k i hk3 hi hki x (by rw [← e0]; exact hp) hix
          rw [decide_eq_decide]
          omega)
end Mod
end Go.Proofs.YtamafdcnbcoegaaGreat
namespace Go.Proofs.YtamafdcnbcoegaaGreat
namespace Mod

/-- The agent that is opened on another's disk. -/
def reop (a : Ag) : Ag := { epoch := a.epoch + 1, ticks := 0, welcome := false, fenced := false, fl := fun i => if i < 3 then { base := (a.fl i).base, kept := (a.fl i).kept.map fun x => (x.1, 0), held := [] } else { base := 0, kept := [], held := [] } }
theorem agLoad_of {L : List UInt8} {h : Hd} {at' : Nat} {rs : List Rc} {l : Ld} (h1 : openSt L = some (h, at', rs)) (h2 : ldAll h.num rs 0 ld0 = some l) (h3 : ∀ i, i < 3 → okP (l.sh i) (h.num i) = true) : agLoad L = some (agOf h.o h.num l) := by
  unfold agLoad
  rw [h1]
  simp only
  rw [h2]
  simp only
  rw [if_pos ⟨h3 0 (by omega), h3 1 (by omega), h3 2 (by omega)⟩]
theorem agLoad_some {L : List UInt8} {a : Ag} (h : agLoad L = some a) : ∃ hd at' rs l, openSt L = some (hd, at', rs) ∧ ldAll hd.num rs 0 ld0 = some l ∧ (∀ i, i < 3 → okP (l.sh i) (hd.num i) = true) ∧ a = agOf hd.o hd.num l := by
  unfold agLoad at h
  cases ho : openSt L with
  | none => rw [ho] at h; cases h
  | some p =>
    obtain ⟨hd, at', rs⟩ := p
    rw [ho] at h
    simp only at h
    cases hl : ldAll hd.num rs 0 ld0 with
    | none => rw [hl] at h; cases h
    | some l =>
      rw [hl] at h
      simp only at h
      split at h
      · rename_i hk
        cases h
        refine ⟨hd, at', rs, l, rfl, hl, fun i hi => ?_, rfl⟩
        obtain rfl | rfl | rfl : i = 0 ∨ i = 1 ∨ i = 2 := by omega
        · exact hk.1
        · exact hk.2.1
        · exact hk.2.2
      · cases h
theorem num_fun (g : Nat → Nat) (op c i : Nat) (hi : i < 3) : Hd.num ⟨op, c, g 0, g 1, g 2⟩ i = g i := by
  unfold Hd.num
  obtain rfl | rfl | rfl : i = 0 ∨ i = 1 ∨ i = 2 := by omega
  all_goals rfl
theorem ldAll_num {g g' : Nat → Nat} (hg : ∀ i, i < 3 → g i = g' i) : ∀ (rs : List Rc) (x : Nat) (l : Ld), (∀ r ∈ rs, r.s < 3) → ldAll g rs x l = ldAll g' rs x l
  | [], _, _, _ => rfl
  | r :: rs, x, l, h => by
    have e : ldStep g x r l = ldStep g' x r l := by unfold ldStep; rw [hg r.s (h r (.head _))]
    unfold ldAll
    rw [e]
    split
    · rfl
    · exact ldAll_num hg rs (x + 1) _ (fun r' hr => h r' (.tail _ hr))
theorem AgDisk.loads {L : List UInt8} {op ct hd : Nat} {a : Ag} {free : List Nat} {pl : Nat → List Nat} (D : AgDisk L op ct hd a free pl) (P : Places a free pl) (he : a.epoch = op) (hop : op ≤ 1073741824) (hsum : ∀ i, i < 3 → (a.fl i).base + (a.fl i).kept.length ≤ 1073741824) :
    agLoad L = some (reop a) := by
  obtain ⟨rc, r1, r2, r3⟩ := D.rcs
  obtain ⟨c, ho⟩ := D.ok.opens hop rc (fun x hx => r1 x hx)
  obtain ⟨l, hl, hs⟩ := ldAll_disk P rc r2 (fun x hx => (r3 x hx).2) 24 0 ld0 (by omega) (fun i _ => (List.filter_eq_nil_iff.2 fun e _ => by simp).symm)
  have hrc : (List.range 24).map (fun j => rc (0 + j)) = (List.range (26 - 2)).map rc := by
    apply List.map_congr_left
    intro j _
    rw [Nat.zero_add]
  rw [hrc] at hl
  have hnum := fun i hi => num_fun (fun i => (a.fl i).base) op c i hi
  have hl2 : ldAll (Hd.num ⟨op, c, (a.fl 0).base, (a.fl 1).base, (a.fl 2).base⟩) ((List.range (26 - 2)).map rc) 0 ld0 = some l := by
    rw [ldAll_num (g' := fun i => (a.fl i).base) hnum _ _ _ ?_]
    · exact hl
    · intro r hr
      obtain ⟨x, hx, rfl⟩ := List.mem_map.1 hr
      rcases r1 x (by simpa using hx) with ⟨_, e⟩ | ⟨_, _, _, _, _, _, hf, _⟩
      · rw [e]; simp [rc0]
      · exact hf.1
  rw [agLoad_of ho hl2 (fun i hi => by
    rw [hnum i hi, hs i hi]
    have := hsum i hi
    unfold okP
    rw [keptP_lastP _ _ _ (P.pn i hi), keptP_length _ _ _ (P.pn i hi)]
    simp
    omega)]
  unfold agOf reop
  congr 2
  · rw [he]
  · funext i
    by_cases hi : i < 3
    · rw [if_pos hi, if_pos hi, hnum i hi, hs i hi]
      congr 1
      have := keptP_bodies (a.fl i).base (a.fl i).kept (pl i) (P.pn i hi)
      have h2 := congrArg (List.map fun b : ByteArray => (b, 0)) this
      rw [List.map_map, List.map_map] at h2
      exact h2
    · rw [if_neg hi, if_neg hi]
theorem keptP_same : ∀ (b : Nat) (k k' : List (ByteArray × Nat)) (p : List Nat), k.map (·.1) = k'.map (·.1) → keptP b k p = keptP b k' p
  | _, [], [], _, _ => rfl
  | b, [], _ :: _, p, h => by simp at h
  | b, _ :: _, [], p, h => by simp at h
  | b, x :: r, y :: s, [], _ => by simp [keptP]
  | b, x :: r, y :: s, q :: qs, h => by
    simp only [List.map_cons, List.cons.injEq] at h
    rw [keptP, keptP, h.1, keptP_same (b + 1) r s qs h.2]
theorem keptP_app : ∀ (b : Nat) (k k' : List (ByteArray × Nat)) (p p' : List Nat), p.length = k.length → keptP b (k ++ k') (p ++ p') = keptP b k p ++ keptP (b + k.length) k' p'
  | b, [], k', [], p', _ => by simp [keptP]
  | b, [], k', q :: qs, p', h => by simp at h
  | b, x :: r, k', [], p', h => by simp at h
  | b, x :: r, k', q :: qs, p', h => by
    show keptP b (x :: (r ++ k')) (q :: (qs ++ p')) = _
    rw [keptP, keptP, keptP_app (b + 1) r k' qs p' (by simpa using h), List.length_cons, show b + 1 + r.length = b + (r.length + 1) by omega]
    rfl
/-- Whatever else has turned: the bases, what is kept and where are the same. -/
theorem AgDisk.same {L : List UInt8} {op ct hd : Nat} {a a' : Ag} {free : List Nat} {pl : Nat → List Nat} (D : AgDisk L op ct hd a free pl) (hb : ∀ i, i < 3 → (a'.fl i).base = (a.fl i).base ∧ (a'.fl i).kept.map (·.1) = (a.fl i).kept.map (·.1)) : AgDisk L op ct hd a' free pl := by
  obtain ⟨rc, r1, r2, r3⟩ := D.rcs
  obtain ⟨k1, k2, k3, k4, k5, k6, k7, c, k8, k9, k10⟩ := D.ok
  have h3 : ∀ x, x < 24 → (rc x).s < 3 := fun x hx => by
    rcases r1 x hx with ⟨_, e⟩ | ⟨_, _, _, _, _, _, hf, _⟩
    · rw [e]; simp [rc0]
    · exact hf.1
  refine ⟨⟨k1, k2, k3, k4, k5, k6, fun i hi => by rw [(hb i hi).1]; exact k7 i hi, c, k8, ?_, k10⟩, rc, r1, fun i hi e he => ?_, fun x hx => ?_⟩
  · rw [(hb 0 (by omega)).1, (hb 1 (by omega)).1, (hb 2 (by omega)).1]
    exact k9
  · rw [(hb i hi).1, keptP_same _ _ _ _ (hb i hi).2] at he
    exact r2 i hi e he
  · obtain ⟨h1, h2⟩ := r3 x hx
    exact ⟨h1, by rw [(hb _ h1).1]; exact h2⟩
/-- A record is written. -/
theorem AgDisk.submit {L : List UInt8} {op ct hd : Nat} {a : Ag} {fr : List Nat} {x : Nat} {pl : Nat → List Nat} (D : AgDisk L op ct hd a (fr ++ [x]) pl) (P : Places a (fr ++ [x]) pl) {s : Nat} (hs : s < 3) {b : ByteArray} (hb : b.size ≤ 20) (hct : ct + 1 < 18446744073709551616) (hq : (a.fl s).base + (a.fl s).kept.length + 1 ≤ 2147483647) :
    AgDisk (setSec L (2 + x) (sealR op (ct + 1) ⟨s, (a.fl s).base + (a.fl s).kept.length + 1, b⟩)) op (ct + 1) hd (a.submit s b) fr (fun t => if t = s then pl s ++ [x] else pl t) := by
  obtain ⟨rc, r1, r2, r3⟩ := D.rcs
  have hx : x < 24 := P.lt x (by simp)
  have hS : (sealR op (ct + 1) ⟨s, (a.fl s).base + (a.fl s).kept.length + 1, b⟩).length = 64 := length_sealR hb
  have hl := D.ok.len
  have hfl : ∀ j, (a.submit s b).fl j = if j = s then { a.fl s with kept := (a.fl s).kept ++ [(b, 0)] } else a.fl j := fun j => rfl
  have hbase : ∀ j, ((a.submit s b).fl j).base = (a.fl j).base := fun j => by
    rw [hfl]
    split
    · rename_i e; rw [e]
    · rfl
  have hfit : Rc.fits ⟨s, (a.fl s).base + (a.fl s).kept.length + 1, b⟩ := ⟨hs, by show 1 ≤ (a.fl s).base + _ + 1; omega, hq, hb⟩
  obtain ⟨p1, p2, p3⟩ := P.apart
  have hxp : ∀ i, i < 3 → x ∉ pl i := p2 x (by simp)
  have hxf : x ∉ fr := by
    have := P.nd
    rw [List.nodup_append, List.nodup_append, List.nodup_append] at this
    obtain ⟨⟨⟨n0, _⟩, _⟩, _⟩ := this
    rw [List.nodup_append] at n0
    intro hm
    exact n0.2.2 x hm x (by simp) rfl
  have hok := D.ok.record (x := x) hS (by omega) hct
  have hbf : (fun i => ((a.submit s b).fl i).base) = fun i => (a.fl i).base := funext hbase
  obtain ⟨rc', hrc⟩ : ∃ rc' : Nat → Rc, ∀ y, rc' y = if y = x then ⟨s, (a.fl s).base + (a.fl s).kept.length + 1, b⟩ else rc y := ⟨_, fun _ => rfl⟩
  refine ⟨by rw [hbf]; exact hok, rc', fun y hy => ?_, fun i hi e he => ?_, fun y hy => ?_⟩
  · by_cases e : y = x
    · subst e
      rw [hrc, if_pos rfl, sec_set hS (by omega)]
      exact .inr ⟨op, ct + 1, D.ok.op1, Nat.le_refl _, D.ok.opm, hct, hfit, rfl⟩
    · rw [hrc, if_neg e, sec_other hS (by omega) (by omega)]
      exact r1 y hy
  · have hmem : ∀ i, i < 3 → ∀ e ∈ keptP (a.fl i).base (a.fl i).kept (pl i), e.2.2 ≠ x := fun i hi e he h1 => by
      apply hxp i hi
      rw [← keptP_places (a.fl i).base (a.fl i).kept (pl i) (P.pn i hi), ← h1]
      exact List.mem_map_of_mem he
    by_cases hsi : i = s
    · subst hsi
      rw [hfl, if_pos rfl, if_pos rfl, keptP_app _ _ _ _ _ (P.pn i hi), List.mem_append] at he
      rcases he with he | he
      · rw [hrc, if_neg (hmem i hi e he)]
        exact r2 i hi e he
      · simp only [keptP, List.mem_singleton] at he
        subst he
        rw [hrc, if_pos rfl]
    · rw [hfl, if_neg hsi, if_neg hsi] at he
      rw [hrc, if_neg (hmem i hi e he)]
      exact r2 i hi e he
  · have hyx : y ≠ x := fun e => hxf (by rw [← e]; exact hy)
    rw [hrc, if_neg hyx, hbase]
    exact r3 y (by simp [hy])
end Mod
end Go.Proofs.YtamafdcnbcoegaaGreat
namespace Go.Proofs.YtamafdcnbcoegaaGreat
namespace Mod

theorem insP_perm {e : Pe} : ∀ {l : List Pe}, (∀ y ∈ l, y.1 ≠ e.1) → (insP l e).Perm (e :: l)
  | [], _ => List.Perm.refl _
  | y :: r, h => by
    have h1 := h y (.head _)
    unfold insP
    rw [if_neg (fun e' => h1 e'.symm)]
    split
    · exact List.Perm.refl _
    · exact ((insP_perm (fun z hz => h z (.tail _ hz))).cons y).trans (List.Perm.swap e y r)
theorem insP_sorted {e : Pe} : ∀ {l : List Pe}, l.Pairwise (fun x y => x.1 < y.1) → (∀ y ∈ l, y.1 ≠ e.1) → (insP l e).Pairwise (fun x y => x.1 < y.1)
  | [], _, _ => by simp [insP]
  | y :: r, hs, h => by
    have h1 := h y (.head _)
    rw [List.pairwise_cons] at hs
    unfold insP
    rw [if_neg (fun e' => h1 e'.symm)]
    split
    · rename_i hlt
      rw [List.pairwise_cons, List.pairwise_cons]
      refine ⟨fun z hz => ?_, hs.1, hs.2⟩
      cases hz with
      | head => exact hlt
      | tail _ hz => exact Nat.lt_trans hlt (hs.1 z hz)
    · rename_i hlt
      rw [List.pairwise_cons]
      refine ⟨fun z hz => ?_, insP_sorted hs.2 (fun z hz => h z (.tail _ hz))⟩
      have := (insP_perm (fun z hz => h z (.tail _ hz)) : (insP r e).Perm (e :: r)).subset hz
      cases this with
      | head => omega
      | tail _ hz => exact hs.1 z hz
/-- What is so of what was loaded so far. -/
structure LdInv (g : Nat → Nat) (rs : List Rc) (x : Nat) (l : Ld) : Prop where
  srt : ∀ i, (l.sh i).Pairwise (fun y z => y.1 < z.1)
  rcd : ∀ i, ∀ e ∈ l.sh i, g i < e.1 ∧ e.2.2 < x ∧ rs[e.2.2]? = some ⟨i, e.1, e.2.1⟩
  fre : ∀ y ∈ l.free, y < x ∧ ∃ r, rs[y]? = some r ∧ r.q ≤ g r.s
  nd : (l.free ++ (l.sh 0).map (·.2.2) ++ (l.sh 1).map (·.2.2) ++ (l.sh 2).map (·.2.2)).Nodup
  sum : l.free.length + (l.sh 0).length + (l.sh 1).length + (l.sh 2).length = x
theorem ldInv_zero (g : Nat → Nat) (rs : List Rc) : LdInv g rs 0 ld0 :=
  ⟨fun i => List.Pairwise.nil, fun i e he => by simp [ld0] at he, fun y hy => by simp [ld0] at hy, by simp [ld0], rfl⟩
theorem LdInv.step {g : Nat → Nat} {rs : List Rc} {x : Nat} {l l' : Ld} {r : Rc} (h : LdInv g rs x l) (hr : rs[x]? = some r) (hs : r.s < 3) (hl : ldStep g x r l = some l') : LdInv g rs (x + 1) l' := by
  have hall : ∀ y ∈ l.free ++ (l.sh 0).map (·.2.2) ++ (l.sh 1).map (·.2.2) ++ (l.sh 2).map (·.2.2), y < x := by
    intro y hy
    simp only [List.mem_append, List.mem_map] at hy
    rcases hy with ((hy | ⟨e, he, rfl⟩) | ⟨e, he, rfl⟩) | ⟨e, he, rfl⟩
    · exact (h.fre y hy).1
    · exact (h.rcd 0 e he).2.1
    · exact (h.rcd 1 e he).2.1
    · exact (h.rcd 2 e he).2.1
  have hnx : x ∉ l.free ++ (l.sh 0).map (·.2.2) ++ (l.sh 1).map (·.2.2) ++ (l.sh 2).map (·.2.2) := fun hm => Nat.lt_irrefl _ (hall x hm)
  have hcons := List.nodup_cons.2 ⟨hnx, h.nd⟩
  unfold ldStep at hl
  split at hl
  · rename_i hq
    cases hl
    refine ⟨h.srt, fun i e he => ⟨(h.rcd i e he).1, Nat.lt_succ_of_lt (h.rcd i e he).2.1, (h.rcd i e he).2.2⟩, fun y hy => ?_, ?_, ?_⟩
    · rw [List.mem_append, List.mem_singleton] at hy
      rcases hy with hy | rfl
      · exact ⟨Nat.lt_succ_of_lt (h.fre y hy).1, (h.fre y hy).2⟩
      · exact ⟨Nat.lt_succ_self _, r, hr, hq⟩
    · refine (List.Perm.nodup_iff ?_).2 hcons
      simp only [List.append_assoc]
      exact List.perm_middle
    · have := h.sum
      simp only [List.length_append, List.length_singleton]
      omega
  · rename_i hq
    split at hl
    · cases hl
    · rename_i hc
      cases hl
      have hk : ∀ y ∈ l.sh r.s, y.1 ≠ r.q := fun y hy e => hc (by
        rw [List.contains_iff_mem]
        exact List.mem_map.2 ⟨y, hy, e⟩)
      have hp : (insP (l.sh r.s) (r.q, r.b, x)).Perm ((r.q, r.b, x) :: l.sh r.s) := insP_perm hk
      have hpl : ((insP (l.sh r.s) (r.q, r.b, x)).map (·.2.2)).Perm (x :: (l.sh r.s).map (·.2.2)) := hp.map _
      refine ⟨fun i => ?_, fun i e he => ?_, fun y hy => ⟨Nat.lt_succ_of_lt (h.fre y hy).1, (h.fre y hy).2⟩, ?_, ?_⟩
      · show List.Pairwise _ (if i = r.s then insP (l.sh r.s) (r.q, r.b, x) else l.sh i)
        split
        · exact insP_sorted (h.srt r.s) hk
        · exact h.srt i
      · have he' : e ∈ (if i = r.s then insP (l.sh r.s) (r.q, r.b, x) else l.sh i) := he
        by_cases e0 : i = r.s
        · rw [if_pos e0] at he'
          have := hp.subset he'
          cases this with
          | head => rw [e0]; exact ⟨Nat.lt_of_not_le hq, Nat.lt_succ_self _, hr⟩
          | tail _ hm => rw [e0]; exact ⟨(h.rcd r.s e hm).1, Nat.lt_succ_of_lt (h.rcd r.s e hm).2.1, (h.rcd r.s e hm).2.2⟩
        · rw [if_neg e0] at he'
          exact ⟨(h.rcd i e he').1, Nat.lt_succ_of_lt (h.rcd i e he').2.1, (h.rcd i e he').2.2⟩
      · refine (List.Perm.nodup_iff ?_).2 hcons
        show (l.free ++ (if 0 = r.s then insP (l.sh r.s) (r.q, r.b, x) else l.sh 0).map (·.2.2) ++ (if 1 = r.s then insP (l.sh r.s) (r.q, r.b, x) else l.sh 1).map (·.2.2) ++ (if 2 = r.s then insP (l.sh r.s) (r.q, r.b, x) else l.sh 2).map (·.2.2)).Perm _
        obtain e | e | e : r.s = 0 ∨ r.s = 1 ∨ r.s = 2 := by omega
        · rw [e] at hpl ⊢
          rw [if_pos rfl, if_neg (by omega), if_neg (by omega)]
          simp only [List.append_assoc]
          exact ((List.Perm.append_left _ (List.Perm.append_right _ hpl))).trans List.perm_middle
        · rw [e] at hpl ⊢
          rw [if_neg (by omega), if_pos rfl, if_neg (by omega)]
          simp only [List.append_assoc]
          refine (List.Perm.append_left _ (List.Perm.append_left _ (List.Perm.append_right _ hpl))).trans ?_
          rw [List.cons_append, ← List.append_assoc l.free, ← List.append_assoc l.free]
          exact List.perm_middle
        · rw [e] at hpl ⊢
          rw [if_neg (by omega), if_neg (by omega), if_pos rfl]
          exact (List.Perm.append_left _ hpl).trans List.perm_middle
      · have hlen := hp.length_eq
        rw [List.length_cons] at hlen
        have := h.sum
        show l.free.length + (if 0 = r.s then insP (l.sh r.s) (r.q, r.b, x) else l.sh 0).length + (if 1 = r.s then insP (l.sh r.s) (r.q, r.b, x) else l.sh 1).length + (if 2 = r.s then insP (l.sh r.s) (r.q, r.b, x) else l.sh 2).length = x + 1
        obtain e | e | e : r.s = 0 ∨ r.s = 1 ∨ r.s = 2 := by omega
        · rw [e] at hlen ⊢
          rw [if_pos rfl, if_neg (by omega), if_neg (by omega)]
          omega
        · rw [e] at hlen ⊢
          rw [if_neg (by omega), if_pos rfl, if_neg (by omega)]
          omega
        · rw [e] at hlen ⊢
          rw [if_neg (by omega), if_neg (by omega), if_pos rfl]
          omega
theorem ldInv_all {g : Nat → Nat} {rs : List Rc} : ∀ (qs : List Rc) (x : Nat) (l l' : Ld), (∀ j, qs[j]? = rs[x + j]?) → (∀ r ∈ qs, r.s < 3) → LdInv g rs x l → ldAll g qs x l = some l' → LdInv g rs (x + qs.length) l'
  | [], x, l, l', _, _, h, hl => by cases hl; exact h
  | r :: qs, x, l, l', hq, hs, h, hl => by
    unfold ldAll at hl
    cases hst : ldStep g x r l with
    | none => rw [hst] at hl; cases hl
    | some l2 =>
      rw [hst] at hl
      have h0 := hq 0
      rw [List.getElem?_cons_zero, Nat.add_zero] at h0
      have := ldInv_all qs (x + 1) l2 l' (fun j => by
        have := hq (j + 1)
        rw [List.getElem?_cons_succ] at this
        rw [this]
        congr 1
        omega) (fun r' hr => hs r' (.tail _ hr)) (h.step h0.symm (hs r (.head _)) hst) hl
      rw [List.length_cons, show x + (qs.length + 1) = x + 1 + qs.length by omega]
      exact this
theorem sorted_room : ∀ (r : List Pe) (c u : Nat), c ≤ u → r.Pairwise (fun x y => x.1 < y.1) → (∀ y ∈ r, c < y.1 ∧ y.1 ≤ u) → c + r.length ≤ u
  | [], c, u, h, _, _ => by simpa using h
  | y :: r, c, u, h, hs, hy => by
    rw [List.pairwise_cons] at hs
    have h1 := hy y (.head _)
    have := sorted_room r y.1 u h1.2 hs.2 (fun z hz => ⟨hs.1 z hz, (hy z (.tail _ hz)).2⟩)
    rw [List.length_cons]
    omega
theorem keptP_of : ∀ (l : List Pe) (b : Nat), l.Pairwise (fun x y => x.1 < y.1) → (∀ e ∈ l, b < e.1 ∧ e.1 ≤ b + l.length) → keptP b (l.map fun e => (e.2.1, 0)) (l.map (·.2.2)) = l
  | [], _, _, _ => rfl
  | e :: r, b, hs, hb => by
    rw [List.pairwise_cons] at hs
    have h1 := hb e (.head _)
    rw [List.length_cons] at h1
    have h2 := sorted_room r e.1 (b + (r.length + 1)) h1.2 hs.2 (fun z hz => ⟨hs.1 z hz, by have := (hb z (.tail _ hz)).2; rw [List.length_cons] at this; exact this⟩)
    have h3 : e.1 = b + 1 := by omega
    rw [List.map_cons, List.map_cons, keptP]
    have := keptP_of r (b + 1) hs.2 (fun z hz => ⟨by have := hs.1 z hz; omega, by have := (hb z (.tail _ hz)).2; rw [List.length_cons] at this; omega⟩)
    rw [this, ← h3]
theorem lastP_bound {l : List Pe} {b : Nat} (hs : l.Pairwise (fun x y => x.1 < y.1)) : ∀ e ∈ l, e.1 ≤ lastP l b := by
  intro e he
  obtain ⟨j, hj, e0⟩ := List.mem_iff_getElem.1 he
  unfold lastP
  rw [List.getLast?_eq_getElem?, List.getElem?_eq_getElem (by omega : l.length - 1 < l.length)]
  simp only
  by_cases h : j = l.length - 1
  · subst h
    rw [← e0]
    omega
  · have := List.pairwise_iff_getElem.1 hs j (l.length - 1) hj (by omega) (by omega)
    rw [e0] at this
    omega
/-- The places of what was loaded. -/
def plOf (l : Ld) (i : Nat) : List Nat := (l.sh i).map (·.2.2)
/-- A disk of any bytes that is opened is in order. -/
theorem agDisk_opened {L : List UInt8} {hd : Hd} {at' : Nat} {rs : List Rc} {l : Ld} (ho : openSt L = some (hd, at', rs)) (hl : ldAll hd.num rs 0 ld0 = some l) (hk : ∀ i, i < 3 → okP (l.sh i) (hd.num i) = true) (hlen : L.length = 1664) :
    AgDisk (openL L hd at') (hd.o + 1) 1 (1 - at') (agOf hd.o hd.num l) l.free (plOf l) ∧ Places (agOf hd.o hd.num l) l.free (plOf l) ∧ (∀ i, i < 3 → keptP (hd.num i) ((l.sh i).map fun e => (e.2.1, 0)) (plOf l i) = l.sh i) := by
  obtain ⟨hn, hr⟩ := openSt_some ho
  rw [hlen] at hr
  obtain ⟨r1, r2⟩ := recsFrom_some _ _ hr
  have hat : ∀ x, x < 24 → RecAt (sec L (2 + x)) (hd.o + 1) (rs.getD x rc0) := fun x hx => by
    obtain ⟨k1, k2⟩ := r2 x hx
    rw [Nat.zero_add] at k1 k2
    rw [List.getD_eq_getElem?_getD, k2]
    exact (recAt_ok k1).up (by omega)
  have hsm : ∀ r ∈ rs, r.s < 3 := fun r hr => by
    obtain ⟨x, hx, e⟩ := List.mem_iff_getElem.1 hr
    obtain ⟨k1, k2⟩ := r2 x (by omega)
    rw [List.getElem?_eq_getElem hx, e] at k2
    cases k2
    exact (recOk_small k1).1
  have hI := ldInv_all (g := hd.num) (rs := rs) rs 0 ld0 l (fun j => by rw [Nat.zero_add]) hsm (ldInv_zero _ _) hl
  have hrl : rs.length = 24 := r1
  rw [hrl, Nat.zero_add] at hI
  have hok := opened_ok hn (m := 26) (by omega) (by omega)
  have hkp : ∀ i, i < 3 → keptP (hd.num i) ((l.sh i).map fun e => (e.2.1, 0)) (plOf l i) = l.sh i := fun i hi => by
    refine keptP_of _ _ (hI.srt i) (fun e he => ⟨(hI.rcd i e he).1, ?_⟩)
    have h1 := hk i hi
    unfold okP at h1
    simp only [Bool.and_eq_true, decide_eq_true_eq] at h1
    rw [← h1.2]
    exact lastP_bound (hI.srt i) e he
  have hbs : ∀ i, i < 3 → ((agOf hd.o hd.num l).fl i).base = hd.num i := fun i hi => by unfold agOf; simp only; rw [if_pos hi]
  have hkt : ∀ i, i < 3 → ((agOf hd.o hd.num l).fl i).kept = (l.sh i).map fun e => (e.2.1, 0) := fun i hi => by unfold agOf; simp only; rw [if_pos hi]
  refine ⟨⟨⟨hok.len, hok.two, hok.hd1, hok.op1, hok.opm, hok.ctm, fun i hi => by rw [hbs i hi]; exact hok.sm i hi, ?_⟩, fun x => rs.getD x rc0, fun x hx => ?_, fun i hi e he => ?_, fun x hx => ?_⟩, ⟨fun i hi => ?_, hI.nd, fun x hx => ?_, ?_⟩, hkp⟩
  · rw [hbs 0 (by omega), hbs 1 (by omega), hbs 2 (by omega)]
    exact hok.hs
  · rw [openL_other (m := 26) (by omega) (by omega) (by omega)]
    exact hat x hx
  · rw [hbs i hi, hkt i hi, hkp i hi] at he
    show rs.getD e.2.2 rc0 = _
    rw [List.getD_eq_getElem?_getD, (hI.rcd i e he).2.2]
    rfl
  · obtain ⟨_, r, h1, h2⟩ := hI.fre x hx
    have : rs.getD x rc0 = r := by rw [List.getD_eq_getElem?_getD, h1]; rfl
    show (rs.getD x rc0).s < 3 ∧ (rs.getD x rc0).q ≤ ((agOf hd.o hd.num l).fl (rs.getD x rc0).s).base
    rw [this]
    have h3 := hsm r (List.mem_of_getElem? h1)
    exact ⟨h3, by rw [hbs _ h3]; exact h2⟩
  · rw [hkt i hi]
    simp [plOf]
  · simp only [List.mem_append, plOf, List.mem_map] at hx
    rcases hx with ((hx | ⟨e, he, rfl⟩) | ⟨e, he, rfl⟩) | ⟨e, he, rfl⟩
    · exact (hI.fre x hx).1
    · exact (hI.rcd 0 e he).2.1
    · exact (hI.rcd 1 e he).2.1
    · exact (hI.rcd 2 e he).2.1
  · have := hI.sum
    unfold Ag.room
    rw [hkt 0 (by omega), hkt 1 (by omega), hkt 2 (by omega)]
    simp only [List.length_map]
    omega
end Mod
end Go.Proofs.YtamafdcnbcoegaaGreat
namespace Go.Proofs.YtamafdcnbcoegaaGreat
open Go.RowKit

/-- An agent's disk that has not failed: its opening, at most so many writes were made, at which write it fails (0: at none). -/
structure AlvA (op ct n : Nat) (st : Mod.Stv) (a : Mod.Ag) (free : List Nat) (pl : Nat → List Nat) : Prop where
  dead : st.dk.dead = false
  arm : st.dk.armed = n
  op : st.opening = op
  ct : st.count ≤ ct
  dk : Mod.AgDisk st.dk.bytes st.opening st.count st.head a free pl
/-- An agent's disk that has failed. -/
structure DedA (op : Nat) (st : Mod.Stv) (a : Mod.Ag) : Prop where
  dead : st.dk.dead = true
  op : st.opening = op
  dk : ∃ ct hd free pl, Mod.AgDisk st.dk.bytes st.opening ct hd a free pl ∧ Mod.Places a free pl
theorem OnAg.places {a : Mod.Ag} {op : Nat} {g : Nat → Nat} {free : List Nat} {sh : Nat → List (Nat × Value)} {pl : Nat → List Nat} (O : OnAg a op g free sh pl) : Mod.Places a free pl := ⟨O.pn, O.nd, O.lt, O.sum⟩
theorem alvA_next {op ct n : Nat} {st : Mod.Stv} {a : Mod.Ag} {free : List Nat} {pl : Nat → List Nat} (h : AlvA op ct n st a free pl) (hct : ct + 1 < 18446744073709551616) : st.next = st.count + 1 := by
  have := h.ct
  unfold Mod.Stv.next
  omega
/-- A record is written. -/
theorem alvA_rec {op ct n : Nat} {st : Mod.Stv} {a : Mod.Ag} {fr : List Nat} {q : Nat} {pl : Nat → List Nat} (h : AlvA op ct n st a (fr ++ [q]) pl) (hct : ct + 1000 < 18446744073709551616) (hn : n ≠ 1) (P : Mod.Places a (fr ++ [q]) pl) {i : Nat} (hi : i < 3) {s : ByteArray} (hb : s.size ≤ 20) (hq : (a.fl i).base + (a.fl i).kept.length < 2147483647) :
    (st.putRecord q i ((a.fl i).base + (a.fl i).kept.length + 1) s.data.toList).1 = 0 ∧ AlvA op (ct + 1) (n - 1) (st.putRecord q i ((a.fl i).base + (a.fl i).kept.length + 1) s.data.toList).2 (a.submit i s) fr (fun t => if t = i then pl i ++ [q] else pl t) := by
  have hnx := alvA_next h (by omega)
  have hd := h.dk.submit P hi hb (by have := h.ct; omega) (by omega)
  have h1 := h.dead
  have h2 := h.arm
  have h3 := h.ct
  unfold Mod.Stv.putRecord Mod.Dk.put
  rw [if_neg (by rw [h1]; simp), if_neg (by rw [h2]; exact hn), hnx]
  exact ⟨rfl, rfl, by show st.dk.armed - 1 = n - 1; rw [h2], h.op, by show st.count + 1 ≤ ct + 1; omega, hd⟩
theorem dedA_rec {op ct : Nat} {st : Mod.Stv} {a : Mod.Ag} {free : List Nat} {pl : Nat → List Nat} (h : AlvA op ct 1 st a free pl) (P : Mod.Places a free pl) (k s q : Nat) (b : List UInt8) :
    (st.putRecord k s q b).1 = 4 ∧ DedA op (st.putRecord k s q b).2 a := by
  have h1 := h.dead
  have h2 := h.arm
  unfold Mod.Stv.putRecord Mod.Dk.put
  rw [if_neg (by rw [h1]; simp), if_pos h2]
  exact ⟨rfl, rfl, h.op, _, _, free, pl, h.dk, P⟩
theorem AlvA.sound {op ct : Nat} {st : Mod.Stv} {a : Mod.Ag} {free : List Nat} {pl : Nat → List Nat} (h : AlvA op ct 0 st a free pl) : Sound st := ⟨h.dead, h.arm⟩
/-- Behind a call that may change an agent, on a disk that may fail. -/
def AgIs2 (op ct n : Nat) (w x : World) (p : Nat) (a : Mod.Ag) (c : Av) : Prop :=
  ∃ g free sh pl st, PaStep w x p g a.ticks a.welcome a.fenced free sh st c ∧ AlvA op ct n st a free pl ∧ OnAg a st.opening g free sh pl
/-- An agent whose disk has failed within a call. -/
def DeadA (op : Nat) (w x : World) (p : Nat) (a : Mod.Ag) (c : Av) : Prop := ∃ g free sh st, PaStep w x p g a.ticks a.welcome a.fenced free sh st c ∧ DedA op st a
section
variable {w x y : World} {p : Nat} {g : Nat → Nat} {tk : Nat} {wel fen : Bool} {free : List Nat} {sh : Nat → List (Nat × Value)} {st st2 : Mod.Stv} {c : Av} {a : Mod.Ag} {op ct n : Nat} {pl : Nat → List Nat}
set_option maxRecDepth 100000 in
set_option maxHeartbeats 2000000 in
theorem agSubmit_no2 (H : PaAt w p g a.ticks a.welcome a.fenced free sh st c) (hs : st.dk.dead = false) (O : OnAg a st.opening g free sh pl) (i : Int) (s : ByteArray) (hr : a.refuses i s.size ≠ 0) :
    Calls Tryz.prog 52 #[ptrTo p, .int .i64 i, .string s] w fun r z => r = .returned (.int .i64 (a.refuses i s.size)) ∧ z = w := by
  have c0 : w.cell? ⟨p, 0, none⟩ = some (ptrTo c.s) := by rw [blk_cell H.ks.blk, H.ks.a0]
  have hID := storeIsDead_any H.stt
  rw [hs] at hID
  have HID := hide hID
  obtain ⟨ad, cap, hfv, _⟩ := H.ks.fr.shape
  have c22 : w.cell? ⟨p, 22, none⟩ = some (.slice ad free.length cap) := by rw [blk_cell H.ks.blk, H.ks.af, hfv]
  have hsum := O.sum
  obtain ⟨m, hm⟩ : ∃ m, m = free.length := ⟨_, rfl⟩
  rw [← hm] at c22 hsum
  have HIS := hide (isStream_any i w)
  obtain ⟨e, he⟩ : ∃ e, e = a.refuses i s.size := ⟨_, rfl⟩
  rw [← he]
  have hcase : (Wire.isStr i = false ∧ e = 5) ∨ (Wire.isStr i = true ∧ 20 < s.size ∧ e = 6) ∨ (Wire.isStr i = true ∧ ¬ 20 < s.size ∧ m = 0 ∧ e = 7) := by
    unfold Mod.Ag.refuses at he hr
    by_cases h1 : i < 0 ∨ 3 ≤ i
    · rw [if_pos h1] at he
      refine .inl ⟨?_, he⟩
      cases hc : Wire.isStr i
      · rfl
      · simp [Wire.isStr] at hc; omega
    · rw [if_neg h1] at he hr
      have hst : Wire.isStr i = true := by simp [Wire.isStr]; omega
      by_cases h2 : 20 < s.size
      · rw [if_pos h2] at he
        exact .inr (.inl ⟨hst, h2, he⟩)
      · rw [if_neg h2] at he hr
        by_cases h3 : 24 ≤ a.room
        · rw [if_pos h3] at he
          exact .inr (.inr ⟨hst, h2, by omega, he⟩)
        · rw [if_neg h3] at hr
          exact absurd rfl hr
  clear H hID hfv hm hr he O hsum
  unfold ptrTo at *
  rcases hcase with ⟨h1, rfl⟩ | ⟨h1, h2, rfl⟩ | ⟨h1, h2, rfl, rfl⟩
  · rw [h1] at HIS
    go_enter Tryz.func52, Tryz.ntmps52
    go_wp2_with (first | (go_at_call 86; refine (unhide HID).mono ?_; rintro r y ⟨rfl, hyw⟩; obtain rfl : w = y := hyw.symm) | (go_at_call 87; refine (unhide HIS).mono ?_; rintro r y ⟨rfl, hyw⟩; obtain rfl : w = y := hyw.symm))
    go_ret
    exact ⟨rfl, rfl⟩
  · rw [h1] at HIS
    have h2' : (20 : Int) < (s.size : Int) := by omega
    go_enter Tryz.func52, Tryz.ntmps52
    go_wp2_with (first | (go_at_call 86; refine (unhide HID).mono ?_; rintro r y ⟨rfl, hyw⟩; obtain rfl : w = y := hyw.symm) | (go_at_call 87; refine (unhide HIS).mono ?_; rintro r y ⟨rfl, hyw⟩; obtain rfl : w = y := hyw.symm))
    go_ret
    exact ⟨rfl, rfl⟩
  · rw [h1] at HIS
    have h2' : ¬ (20 : Int) < (s.size : Int) := by omega
    go_enter Tryz.func52, Tryz.ntmps52
    go_wp2_with (first | (go_at_call 86; refine (unhide HID).mono ?_; rintro r y ⟨rfl, hyw⟩; obtain rfl : w = y := hyw.symm) | (go_at_call 87; refine (unhide HIS).mono ?_; rintro r y ⟨rfl, hyw⟩; obtain rfl : w = y := hyw.symm))
    go_ret
    exact ⟨rfl, rfl⟩

set_option maxRecDepth 100000 in
set_option maxHeartbeats 4000000 in
theorem agSubmit_ok2 (H : PaAt w p g a.ticks a.welcome a.fenced free sh st c) (hs : AlvA op ct n st a free pl) (hct : ct + 1000 < 18446744073709551616) (hnn : n ≠ 1) (O : OnAg a st.opening g free sh pl) {i : Nat} (hi : i < 3) (s : ByteArray) (hsz : s.size ≤ 20) (hroom : a.room < 24) (hsum : (a.fl i).base + (a.fl i).kept.length < 2147483647) :
    Calls Tryz.prog 52 #[ptrTo p, .int .i64 i, .string s] w fun r z => r = .returned (.int .i64 0) ∧ AgIs2 op (ct + 1) (n - 1) w z p (a.submit i s) c := by
  have hne : free ≠ [] := fun h => by have := O.sum; rw [h] at this; simp at this; omega
  obtain ⟨fr, q, rfl⟩ : ∃ fr q, free = fr ++ [q] := by
    rcases List.eq_nil_or_concat free with h | ⟨l, x, h⟩
    · exact absurd h hne
    · exact ⟨l, x, by rw [h, List.concat_eq_append]⟩
  have hq : q < 24 := O.lt q (by simp)
  have hALV := alvA_rec hs hct hnn O.places hi hsz hsum
  have hdd := hs.dead
  clear hct hnn hs
  have c0 : w.cell? ⟨p, 0, none⟩ = some (ptrTo c.s) := by rw [blk_cell H.ks.blk, H.ks.a0]
  have hID := storeIsDead_any H.stt
  rw [hdd] at hID
  have HID := hide hID
  have hst : Wire.isStr (i : Int) = true := by simp [Wire.isStr]; omega
  have hIS := isStream_any (i : Int) w
  rw [hst] at hIS
  have HIS := hide hIS
  obtain ⟨ad, cap, hfv, _, _, hfc⟩ := H.ks.fr.shape
  have hlen : (fr ++ [q]).length = fr.length + 1 := by simp
  rw [hlen] at hfv hfc
  obtain ⟨gf, of, rfl, hfc2⟩ := hfc (by omega)
  have c22 : w.cell? ⟨p, 22, none⟩ = some (.slice (some ⟨gf, of, none⟩) (fr.length + 1) cap) := by rw [blk_cell H.ks.blk, H.ks.af, hfv]
  have cq : w.cell? ⟨gf, of + fr.length, none⟩ = some (.int .i64 q) := by
    rw [hfc2 fr.length (by omega)]
    simp [numCells]
  have hm24 : fr.length + 1 ≤ 24 := by have := O.sum; simp at this; omega
  obtain ⟨m, hm⟩ : ∃ m, m = fr.length := ⟨_, rfl⟩
  rw [← hm] at c22 cq hm24 hfv
  have hwl : IntKind.i64.wrap (((m + 1 : Nat) : Int) - 1) = (m : Int) := by rw [IntKind.wrap_i64]; omega
  have hwl2 : IntKind.i64.wrap ((m : Int) + 1 - 1) = (m : Int) := by rw [IntKind.wrap_i64]; omega
  have hwm : IntKind.i64.wrap (m : Int) = (m : Int) := by rw [IntKind.wrap_i64]; omega
  have hm1 : (0 : Int) ≤ (m : Int) := by omega
  have hm2 : (m : Int) < ((m + 1 : Nat) : Int) := by omega
  have hm3 : (m : Int) < (m : Int) + 1 := by omega
  have hm0 : (((m + 1 : Nat) : Int) == 0) = false := by simp; omega
  have hm0' : ((m : Int) + 1 == 0) = false := by simp; omega
  obtain ⟨bl, hbl⟩ : ∃ bl, bl = (a.fl i).base + (a.fl i).kept.length := ⟨_, rfl⟩
  have hLst := fun n => agLast_any (H.below (below_drewN (Below.refl _ _) n)) O hi (O.bs i hi)
  rw [← hbl] at hLst hsum
  have HLst := fun n => hide (hLst n)
  have hws : IntKind.i64.wrap ((bl : Int) + 1) = ((bl + 1 : Nat) : Int) := by rw [IntKind.wrap_i64]; omega
  obtain ⟨sq, hsq⟩ : ∃ sq, sq = bl + 1 := ⟨_, rfl⟩
  rw [← hsq] at hws
  obtain ⟨h0, hs2⟩ := hALV
  rw [← hbl, ← hsq] at h0 hs2
  have hslen : s.data.toList.length = s.size := by simp
  have hpr := putRecord_len (st := st) q i sq s.data.toList (by omega) (by rw [H.len]; omega)
  rw [H.len] at hpr
  have hWR := fun y (hy : Below w.heap.size w y) => writeRecord_any y c.s c.dp st c.dlv c.duv (H.below hy).stt q i sq s (by rw [H.len]; omega) (by omega) (by omega) hsz
  have hop : (st.putRecord q i sq s.data.toList).2.opening = st.opening := rfl
  obtain ⟨st2, hst2⟩ : ∃ st2, st2 = (st.putRecord q i sq s.data.toList).2 := ⟨_, rfl⟩
  rw [← hst2] at hs2 hpr hop
  rw [h0, ← hst2] at hWR
  have HWR := fun y hy => hide (hWR y hy)
  have h20 : ¬ (20 : Int) < (s.size : Int) := by omega
  have hi0 : (0 : Int) ≤ (i : Int) := by omega
  have hi3 : (i : Int) < 3 := by omega
  have HFACT := hide (And.intro hs2 (And.intro hpr (And.intro hop (And.intro hm (And.intro hbl (And.intro hsq hfv))))))
  have HO := hide O
  have HH := hide H
  have hpl := lt_of_block H.ks.blk
  have hSC := fun y => hide (strClone_any s y (by omega))
  clear H O hID hIS hst hWR hs2 hpr hop hm hbl hsq hfv hLst h0 hst2 hfc hfc2 hslen hlen hne hroom hsum hsz hdd
  unfold ptrTo at *
  go_enter Tryz.func52, Tryz.ntmps52
  go_upto_region 9 with (first | (go_at_call 86; refine (unhide HID).mono ?_; rintro r y ⟨rfl, hyw⟩; obtain rfl : w = y := hyw.symm) | (go_at_call 87; refine (unhide HIS).mono ?_; rintro r y ⟨rfl, hyw⟩; obtain rfl : w = y := hyw.symm))
  go_quiet (first | (go_at_call 88; exact Calls.quiet_of (unhide (HLst _))))
  go_upto_region 10 with fail
  refine wp_world (fun x => Below w.heap.size w x) (below_drewN (Below.refl _ _) _) ?_
  clear cq HID HIS HLst hws
  intro x hbx
  have d0 := (hbx.cell (p := ⟨p, 0, none⟩) hpl).trans c0
  have HX := hide hbx
  have hWX := hide (unhide (HWR x hbx))
  clear hbx c0 c22 HWR
  go_upto_region 13 with (go_at_call 89; refine (unhide hWX).mono ?_; rintro r y ⟨rfl, uv', k1, k2, k3⟩)
  obtain ⟨hs2, hpr, hop, hm, hbl, hsq, hfv⟩ := unhide HFACT
  have hST := paStep_store ((unhide HH).below (unhide HX)) k1 k2 k3 hpr
  have HST := hide (hST.behind (unhide HX))
  refine wp_world (fun z => PaStep w z p g a.ticks a.welcome a.fenced (fr ++ [q]) sh st2 c) (unhide HST) ?_
  clear k1 k2 k3 hST HST d0 hWX hs2 hpr hop hm hbl hsq hfv
  rintro z ⟨c1, K1, F1, N1, t1, t2⟩
  obtain ⟨ad1, cap1, hfv1, hcap1, _, hfc1⟩ := K1.ks.fr.shape
  obtain ⟨gf1, of1, rfl, _⟩ := hfc1 (by simp)
  have hm := (unhide HFACT).2.2.2.1
  have hlen1 : (fr ++ [q]).length = m + 1 := by simp [hm]
  rw [hlen1] at hfv1 hcap1
  have hmc : m ≤ cap1 := by omega
  have d22 : z.cell? ⟨p, 22, none⟩ = some (.slice (some ⟨gf1, of1, none⟩) (m + 1) cap1) := by rw [blk_cell K1.ks.blk, K1.ks.af, hfv1]
  have df : z.frozen? ⟨p, 22, none⟩ = false := blk_free (i := 22) K1.ks.blk
  have hpz := lt_of_block K1.ks.blk
  have hrow : RowO z 3 1 (.slice (some ⟨gf1, of1, none⟩) m cap1) fr.length (numCells fr) := by
    have h := K1.ks.fr
    rw [hlen1, hfv1] at h
    have h2 := h.init
    rw [← hm]
    have : (numCells (fr ++ [q])).take m = numCells fr := by rw [hm]; simp [numCells]
    rw [this] at h2
    exact h2
  have HSTEP := fun z2 (hz : Below z.heap.size z z2) => hide (paAfter (F1.trans (far_below (E := fun _ => False) hz) (fun _ _ h => h.elim)) N1 t1 t2 (paStep_free (free2 := fr) (x := z2) (v := .slice (some ⟨gf1, of1, none⟩) m cap1) (K1.below hz) (Far.refl _ _) (by rw [hm]; rw [hm] at hrow; exact hrow.far (far_below (E := fun _ => False) hz) (fun _ _ h => h)) (.inr (.inl (by rw [hfv1]; rfl)))))
  clear K1 F1 N1 t1 t2 hfc1 hrow hfv1 hlen1 hm
  refine wp_region_last (by kernel_rfl)
    [fun v _ => v = .pointer (some ⟨p, 0, none⟩), fun v _ => v = .pointer (some ⟨p, 0, none⟩), fun v _ => v = .pointer (some ⟨p, 0, none⟩), fun v _ => v = .pointer (some ⟨p, 22, none⟩), fun v _ => v = .slice (some ⟨gf1, of1, none⟩) (m + 1) cap1, fun v _ => v = .pointer (some ⟨p, 0, none⟩), fun v _ => v = .pointer (some ⟨p, 0, none⟩), fun v _ => v = .pointer (some ⟨p, 22, none⟩), fun v _ => v = .slice (some ⟨gf1, of1, none⟩) (m + 1) cap1,
     fun v _ => v = .int .i64 ((m + 1 : Nat) : Int), fun v _ => v = .int .i64 m, fun v _ => v = .slice (some ⟨gf1, of1, none⟩) m cap1, fun v _ => v = .pointer (some ⟨p, 0, none⟩), fun v _ => v = .pointer (some ⟨p, 22, none⟩), fun _ _ => True]
    [[(0, none)], [(0, none)], [(61, some 1)], [(62, some 2)], [(63, some 3)], [(0, none)], [(65, some 5)], [(66, some 6)], [(67, some 7)], [(68, some 8)], [(69, some 9)], [(64, some 4), (70, some 10)], [(60, some 0)], [(72, some 12)], [(73, some 13), (71, some 11)]] [some 60, some 61, some 62, some 63, some 64, some 65, some 66, some 67, some 68, some 69, some 70, some 71, some 72, some 73, none] [false, false, false, false, false, false, false, false, false, false, false, false, false, false, false, false, false, false, false, false, false, false, false, false, false, false, false, false, false, false, false, false, false, false, false, false, false, false, false, false, false, false, false, false, false, false, false, false, false, false, false, false, false, false, false, false, false, false, false, false, true, true, true, true, true, true, true, true, true, true, true, true, true, true, false, false, false, false, false, false, false, false, false, false, false, false]
    14 _ rfl rfl (by kernel_rfl) (by kernel_rfl) (by kernel_rfl) (by kernel_rfl) (by kernel_rfl) (by kernel_rfl) ?_ ?_ ?_
  · repeat' (first | exact stable_eq _ | exact stable_true | exact trivial | apply And.intro)
  · refine ⟨?_, ?_, ?_, ?_, ?_, ?_, ?_, ?_, ?_, ?_, ?_, ?_, ?_, ?_, trivial⟩
    all_goals
      intro a' y hb hf
      have e22 := (hb.cell (p := ⟨p, 22, none⟩) hpz).trans d22
      clear hb HSTEP
      simp only [PlanFacts, List.getD_cons_zero, List.getD_cons_succ, Array.getD_eq_getD_getElem?] at hf
      try simp at hf
      go_simp
      try exact ⟨_, rfl, Below.refl _ _, rfl⟩
      try exact Below.refl _ _
      try exact ⟨Below.refl _ _, by simp⟩
  · intro f y hby hwd
    simp only [AllWords, List.take] at hwd
    have g11 := hwd.2.2.2.2.2.2.2.2.2.2.2.1
    have g13 := hwd.2.2.2.2.2.2.2.2.2.2.2.2.2.1
    clear hwd
    have HSY := hide (unhide (HSTEP y hby))
    have e22 := (hby.cell (p := ⟨p, 22, none⟩) hpz).trans d22
    have ef : y.frozen? ⟨p, 22, none⟩ = false := (hby.frozen (p := ⟨p, 22, none⟩) hpz).trans df
    clear hby HSTEP d22 df
    simp only [mergeT, g11, g13]
    generalize f 60 = x60
    generalize f 61 = x61
    generalize f 62 = x62
    generalize f 63 = x63
    generalize f 64 = x64
    generalize f 65 = x65
    generalize f 66 = x66
    generalize f 67 = x67
    generalize f 68 = x68
    generalize f 69 = x69
    generalize f 70 = x70
    generalize f 72 = x72
    go_simp
    go_upto_region 14 with fail
    refine wp_world (fun z => PaStep w z p g a.ticks a.welcome a.fenced fr sh st2 c) (unhide HSY) ?_
    clear HSY e22 ef
    rintro z3 ⟨c3, K3, F3, N3, t1, t2⟩
    have hkl := (unhide HO).small hi
    have hshl : (sh (i * 3)).length < 1000 := by rw [(unhide HO).kp i hi, keptL_length _ _ _ ((unhide HO).pn i hi)]; omega
    have hPut := fun y (hy : Below z3.heap.size z3 y) => putA_any ((K3.below hy).shAt (i := i * 3) (by omega)) hshl sq s q
    simp only [recA, show 4 + i * 3 * 2 = 4 + i * 6 by omega] at hPut
    have HPUT := fun y hy => hide (hPut y hy)
    have HK3 := hide (And.intro K3 (And.intro F3 (And.intro N3 (And.intro t1 t2))))
    clear K3 F3 N3 t1 t2 hPut hkl hshl
    refine wp_region_last (by kernel_rfl)
      [fun v _ => v = .pointer (some ⟨p, 0, none⟩), fun v _ => v = .int .i64 i, fun v _ => v = .pointer (some ⟨p, 0, none⟩), fun v _ => v = .pointer (some ⟨p, 4, none⟩), fun v _ => v = .pointer (some ⟨p, 4 + i * 6, none⟩), fun v _ => v = .pointer (some ⟨p, 4 + i * 6, none⟩), fun v _ => v = .int .i64 sq, fun v _ => v = .string s, fun v _ => v = .string s, fun v _ => v = .int .i64 q, fun v _ => v = .agg #[.string s, .int .i64 q], fun _ _ => True]
      [[(0, none)], [(1, none)], [(74, some 0)], [(76, some 2)], [(77, some 3), (75, some 1)], [(78, some 4)], [(7, none)], [(2, none)], [(81, some 7)], [(8, none)], [(82, some 8), (83, some 9)], [(79, some 5), (80, some 6), (84, some 10)]] [some 74, some 75, some 76, some 77, some 78, some 79, some 80, some 81, some 82, some 83, some 84, some 85] [false, false, false, false, false, false, false, false, false, false, false, false, false, false, false, false, false, false, false, false, false, false, false, false, false, false, false, false, false, false, false, false, false, false, false, false, false, false, false, false, false, false, false, false, false, false, false, false, false, false, false, false, false, false, false, false, false, false, false, false, false, false, false, false, false, false, false, false, false, false, false, false, false, false, true, true, true, true, true, true, true, true, true, true, true, true]
      11 _ rfl rfl (by kernel_rfl) (by kernel_rfl) (by kernel_rfl) (by kernel_rfl) (by kernel_rfl) (by kernel_rfl) ?_ ?_ ?_
    · repeat' (first | exact stable_eq _ | exact stable_true | exact trivial | apply And.intro)
    · refine ⟨?_, ?_, ?_, ?_, ?_, ?_, ?_, ?_, ?_, ?_, ?_, trivial⟩
      all_goals
        intro a' y hb hf
        clear hb HPUT
        simp only [PlanFacts, List.getD_cons_zero, List.getD_cons_succ, Array.getD_eq_getD_getElem?] at hf
        try simp at hf
        go_simp
        try exact ⟨_, rfl, Below.refl _ _, rfl⟩
        try exact Below.refl _ _
        try exact ⟨Below.refl _ _, by simp⟩
      all_goals first
        | (refine (unhide (hSC _)).mono ?_; rintro r z ⟨rfl, hb⟩; exact ⟨rfl, hb⟩)
        | (refine (unhide (hSC _)).mono ?_; rintro r z ⟨rfl, hb⟩; exact ⟨_, rfl, hb, rfl⟩)
        | skip
    · intro f2 y hby hwd
      simp only [AllWords, List.take] at hwd
      have g5 := hwd.2.2.2.2.2.1
      have g6 := hwd.2.2.2.2.2.2.1
      have g10 := hwd.2.2.2.2.2.2.2.2.2.2.1
      clear hwd
      have HP := hide (unhide (HPUT y hby))
      have HBY := hide hby
      clear hby HPUT
      simp only [mergeT, g5, g6, g10]
      generalize f2 74 = y74
      generalize f2 75 = y75
      generalize f2 76 = y76
      generalize f2 77 = y77
      generalize f2 78 = y78
      generalize f2 81 = y81
      generalize f2 82 = y82
      generalize f2 83 = y83
      go_simp
      refine (unhide HP).mono ?_
      rintro r u ⟨rfl, hst⟩
      have HST := hide hst
      clear hst
      go_wp2
      go_ret
      refine ⟨rfl, ?_⟩
      obtain ⟨hs2, hpr, hop, hm, hbl, hsq, hfv⟩ := unhide HFACT
      obtain ⟨K3, F3, N3, t1, t2⟩ := unhide HK3
      have hst := unhide HST
      have hst3 : ShStep y u p (4 + i * 3 * 2) 151 c3.arr (c3.nv (i * 3)) (c3.mv (i * 3)) (putL (sh (i * 3)) sq (recA s q)) := by rw [show 4 + i * 3 * 2 = 4 + i * 6 by omega]; exact hst
      have h1 := paAfter F3 N3 t1 t2 ((paStep_sh (K3.below (unhide HBY)) (by omega) hst3).behind (unhide HBY))
      have hON := onAg_submit (unhide HO) hi s
      rw [← hbl, ← hsq, ← hop] at hON
      exact ⟨g, fr, _, _, st2, h1, hs2, hON⟩

set_option maxRecDepth 100000 in
set_option maxHeartbeats 4000000 in
theorem agSubmit_bad (H : PaAt w p g a.ticks a.welcome a.fenced free sh st c) (hs : AlvA op ct 1 st a free pl) (O : OnAg a st.opening g free sh pl) {i : Nat} (hi : i < 3) (s : ByteArray) (hsz : s.size ≤ 20) (hroom : a.room < 24) (hsum : (a.fl i).base + (a.fl i).kept.length < 2147483647) :
    Calls Tryz.prog 52 #[ptrTo p, .int .i64 i, .string s] w fun r z => r = .returned (.int .i64 4) ∧ DeadA op w z p a c := by
  have hne : free ≠ [] := fun h => by have := O.sum; rw [h] at this; simp at this; omega
  obtain ⟨fr, q, rfl⟩ : ∃ fr q, free = fr ++ [q] := by
    rcases List.eq_nil_or_concat free with h | ⟨l, x, h⟩
    · exact absurd h hne
    · exact ⟨l, x, by rw [h, List.concat_eq_append]⟩
  have hq : q < 24 := O.lt q (by simp)
  have hALV := fun sq => dedA_rec hs O.places q i sq s.data.toList
  have hdd := hs.dead
  clear hs
  have c0 : w.cell? ⟨p, 0, none⟩ = some (ptrTo c.s) := by rw [blk_cell H.ks.blk, H.ks.a0]
  have hID := storeIsDead_any H.stt
  rw [hdd] at hID
  have HID := hide hID
  have hst : Wire.isStr (i : Int) = true := by simp [Wire.isStr]; omega
  have hIS := isStream_any (i : Int) w
  rw [hst] at hIS
  have HIS := hide hIS
  obtain ⟨ad, cap, hfv, _, _, hfc⟩ := H.ks.fr.shape
  have hlen : (fr ++ [q]).length = fr.length + 1 := by simp
  rw [hlen] at hfv hfc
  obtain ⟨gf, of, rfl, hfc2⟩ := hfc (by omega)
  have c22 : w.cell? ⟨p, 22, none⟩ = some (.slice (some ⟨gf, of, none⟩) (fr.length + 1) cap) := by rw [blk_cell H.ks.blk, H.ks.af, hfv]
  have cq : w.cell? ⟨gf, of + fr.length, none⟩ = some (.int .i64 q) := by
    rw [hfc2 fr.length (by omega)]
    simp [numCells]
  have hm24 : fr.length + 1 ≤ 24 := by have := O.sum; simp at this; omega
  obtain ⟨m, hm⟩ : ∃ m, m = fr.length := ⟨_, rfl⟩
  rw [← hm] at c22 cq hm24 hfv
  have hwl : IntKind.i64.wrap (((m + 1 : Nat) : Int) - 1) = (m : Int) := by rw [IntKind.wrap_i64]; omega
  have hwl2 : IntKind.i64.wrap ((m : Int) + 1 - 1) = (m : Int) := by rw [IntKind.wrap_i64]; omega
  have hwm : IntKind.i64.wrap (m : Int) = (m : Int) := by rw [IntKind.wrap_i64]; omega
  have hm1 : (0 : Int) ≤ (m : Int) := by omega
  have hm2 : (m : Int) < ((m + 1 : Nat) : Int) := by omega
  have hm3 : (m : Int) < (m : Int) + 1 := by omega
  have hm0 : (((m + 1 : Nat) : Int) == 0) = false := by simp; omega
  have hm0' : ((m : Int) + 1 == 0) = false := by simp; omega
  obtain ⟨bl, hbl⟩ : ∃ bl, bl = (a.fl i).base + (a.fl i).kept.length := ⟨_, rfl⟩
  have hLst := fun n => agLast_any (H.below (below_drewN (Below.refl _ _) n)) O hi (O.bs i hi)
  rw [← hbl] at hLst hsum
  have HLst := fun n => hide (hLst n)
  have hws : IntKind.i64.wrap ((bl : Int) + 1) = ((bl + 1 : Nat) : Int) := by rw [IntKind.wrap_i64]; omega
  obtain ⟨sq, hsq⟩ : ∃ sq, sq = bl + 1 := ⟨_, rfl⟩
  rw [← hsq] at hws
  obtain ⟨h0, hs2⟩ := hALV sq
  have hslen : s.data.toList.length = s.size := by simp
  have hpr := putRecord_len (st := st) q i sq s.data.toList (by omega) (by rw [H.len]; omega)
  rw [H.len] at hpr
  have hWR := fun y (hy : Below w.heap.size w y) => writeRecord_any y c.s c.dp st c.dlv c.duv (H.below hy).stt q i sq s (by rw [H.len]; omega) (by omega) (by omega) hsz
  have hop : (st.putRecord q i sq s.data.toList).2.opening = st.opening := rfl
  obtain ⟨st2, hst2⟩ : ∃ st2, st2 = (st.putRecord q i sq s.data.toList).2 := ⟨_, rfl⟩
  rw [← hst2] at hs2 hpr hop
  rw [h0, ← hst2] at hWR
  have HWR := fun y hy => hide (hWR y hy)
  have h20 : ¬ (20 : Int) < (s.size : Int) := by omega
  have hi0 : (0 : Int) ≤ (i : Int) := by omega
  have hi3 : (i : Int) < 3 := by omega
  have HFACT := hide (And.intro hs2 (And.intro hpr (And.intro hop (And.intro hm (And.intro hbl (And.intro hsq hfv))))))
  have HO := hide O
  have HH := hide H
  have hpl := lt_of_block H.ks.blk
  clear H O hID hIS hst hWR hs2 hpr hop hm hbl hsq hfv hLst h0 hst2 hfc hfc2 hslen hlen hne hroom hsum hsz hdd
  unfold ptrTo at *
  go_enter Tryz.func52, Tryz.ntmps52
  go_upto_region 9 with (first | (go_at_call 86; refine (unhide HID).mono ?_; rintro r y ⟨rfl, hyw⟩; obtain rfl : w = y := hyw.symm) | (go_at_call 87; refine (unhide HIS).mono ?_; rintro r y ⟨rfl, hyw⟩; obtain rfl : w = y := hyw.symm))
  go_quiet (first | (go_at_call 88; exact Calls.quiet_of (unhide (HLst _))))
  go_upto_region 10 with fail
  refine wp_world (fun x => Below w.heap.size w x) (below_drewN (Below.refl _ _) _) ?_
  clear cq HID HIS HLst hws
  intro x hbx
  have d0 := (hbx.cell (p := ⟨p, 0, none⟩) hpl).trans c0
  have HX := hide hbx
  have hWX := hide (unhide (HWR x hbx))
  clear hbx c0 c22 HWR
  go_wp2_with (go_at_call 89; refine (unhide hWX).mono ?_; rintro r y ⟨rfl, uv', k1, k2, k3⟩; replace k1 := hide k1; replace k2 := hide k2; replace k3 := hide k3)
  obtain ⟨hs2, hpr, hop, hm, hbl, hsq, hfv⟩ := unhide HFACT
  have hST := paStep_store ((unhide HH).below (unhide HX)) (unhide k1) (unhide k2) (unhide k3) hpr
  go_ret
  exact ⟨rfl, _, _, _, st2, hST.behind (unhide HX), hs2⟩
end
end Go.Proofs.YtamafdcnbcoegaaGreat
namespace Go.Proofs.YtamafdcnbcoegaaGreat
open Go.RowKit

theorem size_stamp : (Tryz.prog.info? 201).map (·.size) = some 2 := by kernel_rfl
theorem number_sec (S : List UInt8) (hS : S.length = 64) (g : Nat) (t : TypeId) (w : World) (h : w.heap[g]? = some (.cells (bv S).toArray t (0, 0))) (i n cap : Nat) (hi : i + 4 ≤ 64) (hn : 4 ≤ n) :
    Calls Tryz.prog 95 #[.slice (some ⟨g, i, none⟩) n cap] w fun e w' => e = .returned (.int .u32 (Wire.numAt S i)) ∧ Below w.heap.size w w' := by
  have hc : ∀ j, j < 64 → w.cell? ⟨g, j, none⟩ = some (.int .u8 (S.getD j 0).toNat) := fun j hj => by
    rw [blk_cell h, bv_at (by omega)]
  refine (number_bytes g i n cap (S.getD i 0) (S.getD (i + 1) 0) (S.getD (i + 2) 0) (S.getD (i + 3) 0) w hn (hc _ (by omega)) (hc _ (by omega)) (hc _ (by omega)) (hc _ (by omega))).mono ?_
  rintro r y ⟨rfl, k, rfl⟩
  exact ⟨rfl, below_drewN (Below.refl _ _) k⟩
theorem numAt_nat (S : List UInt8) (i : Nat) : ((Wire.numAt S i).toNat : Int) = Wire.numAt S i := by have := Wire.numAt_range S i; omega
theorem ctOf_int (S : List UInt8) : (Mod.ctOf S : Int) = Wire.numAt S 4 + Wire.numAt S 8 * 4294967296 := by
  unfold Mod.ctOf
  have := numAt_nat S 4
  have := numAt_nat S 8
  omega
theorem or_ct (S : List UInt8) : bits BinOp.or IntKind.u64 (Wire.numAt S 4) (Wire.numAt S 8 * 4294967296) = (Mod.ctOf S : Int) := by
  have h1 := Wire.numAt_range S 4
  have h2 := Wire.numAt_range S 8
  rw [u64_or32 _ _ h1.1 h1.2 (by omega) (by omega) (by omega), ctOf_int]

set_option maxRecDepth 100000 in
set_option maxHeartbeats 1000000 in
theorem stampOf_any (S : List UInt8) (hS : S.length = 64) (w : World) :
    Calls Tryz.prog 219 #[.agg (bv S).toArray] w fun r w' => r = .returned (.agg #[.int .u32 (Mod.opOf S), .int .u64 (Mod.ctOf S)]) ∧ Below w.heap.size w w' := by
  have hN0 := fun (y : World) (h : y.heap[w.heap.size]? = some (.cells (bv S).toArray 207 (0, 0))) => hide (number_sec S hS w.heap.size _ y h 0 64 64 (by omega) (by omega))
  have hN4 := fun (y : World) (h : y.heap[w.heap.size]? = some (.cells (bv S).toArray 207 (0, 0))) => hide (number_sec S hS w.heap.size _ y h 4 60 60 (by omega) (by omega))
  have hN8 := fun (y : World) (h : y.heap[w.heap.size]? = some (.cells (bv S).toArray 207 (0, 0))) => hide (number_sec S hS w.heap.size _ y h 8 56 56 (by omega) (by omega))
  have HO := hide (or_ct S)
  have HP : Hid ((Mod.opOf S : Int) = Wire.numAt S 0) := numAt_nat S 0
  obtain ⟨ct, hct⟩ : ∃ ct, ct = Mod.ctOf S := ⟨_, rfl⟩
  obtain ⟨on, hon⟩ : ∃ on, on = Mod.opOf S := ⟨_, rfl⟩
  rw [← hct] at HO ⊢
  rw [← hon] at HP ⊢
  clear hct hon
  have b1 := Wire.numAt_range S 4
  have b2 := Wire.numAt_range S 8
  obtain ⟨b10, b11⟩ := b1
  obtain ⟨b20, b21⟩ := b2
  go_enter Tryz.func219, Tryz.ntmps219
  go_upto_region 1 with fail
  refine wp_world (fun x => x.heap[w.heap.size]? = some (.cells (bv S).toArray 207 (0, 0)) ∧ x.heap[w.heap.size + 1]? = some (.cells #[.int .u32 0, .int .u64 0] 201 (0, 0)) ∧ Below w.heap.size w x) (alloc2 _ _ _) ?_
  rintro x ⟨h0, h1, hB⟩
  have hz := lt_of_block h1
  have H0 := hide h0
  have H1 := hide h1
  have HB := hide hB
  clear h0 h1 hB
  generalize hn0 : Wire.numAt S 0 = n0 at *
  generalize hn4 : Wire.numAt S 4 = n4 at *
  generalize hn8 : Wire.numAt S 8 = n8 at *
  have w4 : IntKind.u64.wrap n4 = n4 := by rw [IntKind.wrap_u64]; omega
  have w8 : IntKind.u64.wrap n8 = n8 := by rw [IntKind.wrap_u64]; omega
  have w9 : IntKind.u64.wrap (n8 * 4294967296) = n8 * 4294967296 := by rw [IntKind.wrap_u64]; omega
  refine wp_region_last (by kernel_rfl)
    [fun v _ => v = .slice (some ⟨w.heap.size, 0, none⟩) 64 64, fun v _ => v = .int .u32 n0, fun v _ => v = .slice (some ⟨w.heap.size, 4, none⟩) 60 60, fun v _ => v = .int .u32 n4, fun v _ => v = .int .u64 n4,
     fun v _ => v = .slice (some ⟨w.heap.size, 8, none⟩) 56 56, fun v _ => v = .int .u32 n8, fun v _ => v = .int .u64 n8, fun v _ => v = .int .u64 (n8 * 4294967296), fun v _ => v = .int .u64 ct, fun v _ => v = .agg #[.int .u32 n0, .int .u64 ct], fun _ _ => True]
    [[(1, none)], [(3, some 0)], [(1, none)], [(5, some 2)], [(6, some 3)], [(1, none)], [(8, some 5)], [(9, some 6)], [(10, some 7)], [(7, some 4), (11, some 8)], [(4, some 1), (12, some 9)], [(2, none), (13, some 10)]] [some 3, some 4, some 5, some 6, some 7, some 8, some 9, some 10, some 11, some 12, some 13, none] [false, false, false, true, true, true, true, true, true, true, true, true, true, true]
    11 _ rfl rfl (by kernel_rfl) (by kernel_rfl) (by kernel_rfl) (by kernel_rfl) (by kernel_rfl) (by kernel_rfl) ?_ ?_ ?_
  · repeat' (first | exact stable_eq _ | exact stable_true | exact trivial | apply And.intro)
  · refine ⟨?_, ?_, ?_, ?_, ?_, ?_, ?_, ?_, ?_, ?_, ?_, trivial⟩
    all_goals
      intro a y hb hf
      have y0 := (hb.block _ (by omega : w.heap.size < x.heap.size)).trans (unhide H0)
      have HN0 := hN0 y y0
      have HN4 := hN4 y y0
      have HN8 := hN8 y y0
      clear hb y0 hN0 hN4 hN8
      simp only [PlanFacts, List.getD_cons_zero, List.getD_cons_succ, Array.getD_eq_getD_getElem?] at hf
      try simp at hf
    · go_simp
      first | exact Below.refl _ _ | exact ⟨_, rfl, Below.refl _ _, rfl⟩
    · go_simp
      refine (unhide HN0).mono ?_
      rintro r w1 ⟨rfl, hb1⟩
      first | exact hb1 | exact ⟨rfl, hb1⟩ | exact ⟨_, rfl, hb1, rfl⟩
    · go_simp
      first | exact Below.refl _ _ | exact ⟨_, rfl, Below.refl _ _, rfl⟩
    · go_simp
      refine (unhide HN4).mono ?_
      rintro r w1 ⟨rfl, hb1⟩
      first | exact hb1 | exact ⟨rfl, hb1⟩ | exact ⟨_, rfl, hb1, rfl⟩
    · go_simp
      first | exact Below.refl _ _ | exact ⟨_, rfl, Below.refl _ _, rfl⟩
    · go_simp
      first | exact Below.refl _ _ | exact ⟨_, rfl, Below.refl _ _, rfl⟩
    · go_simp
      refine (unhide HN8).mono ?_
      rintro r w1 ⟨rfl, hb1⟩
      first | exact hb1 | exact ⟨rfl, hb1⟩ | exact ⟨_, rfl, hb1, rfl⟩
    · go_simp
      first | exact Below.refl _ _ | exact ⟨_, rfl, Below.refl _ _, rfl⟩
    · go_simp
      first | exact Below.refl _ _ | exact ⟨_, rfl, Below.refl _ _, rfl⟩
    · go_simp
      first | exact ⟨by rw [unhide HO], Below.refl _ _⟩ | exact ⟨_, rfl, Below.refl _ _, by rw [← unhide HO]⟩
    · go_simp
      first | exact Below.refl _ _ | exact ⟨_, rfl, Below.refl _ _, rfl⟩
  · intro f y hby hwd
    simp only [AllWords, List.take] at hwd
    have h10 := hwd.2.2.2.2.2.2.2.2.2.2.1
    have y1 := (hby.block _ hz).trans (unhide H1)
    have HBY := hide ((unhide HB).trans (hby.mono (unhide HB).size))
    clear hwd hby
    simp only [mergeT, h10]
    refine wp_store_row 201 (.tmp 2) (.tmp 13) rfl (w.heap.size + 1) #[.int .u32 n0, .int .u64 ct] (by simp [Act.eval]) (by simp [Act.eval]) 201 _ y1 (by rw [size_stamp]; rfl) (by simp) (by rw [Array.all_eq_true_iff_forall_mem]; intro u hu; simp at hu; rcases hu with rfl | rfl <;> rfl) ?_
    have hz2 := setRow_heap y (w.heap.size + 1) _ #[.int .u32 n0, .int .u64 ct] 201 (0, 0) y1
    have HF := hide (far_setRow y (w.heap.size + 1) #[.int .u32 n0, .int .u64 ct])
    generalize f 3 = x3
    generalize f 4 = x4
    generalize f 5 = x5
    generalize f 6 = x6
    generalize f 7 = x7
    generalize f 8 = x8
    generalize f 9 = x9
    generalize f 10 = x10
    generalize f 11 = x11
    generalize f 12 = x12
    generalize y.setRow (w.heap.size + 1) #[.int .u32 n0, .int .u64 ct] = z at *
    have q0 : z.cell? ⟨w.heap.size + 1, 0, none⟩ = some (.int .u32 n0) := blk_cell (i := 0) hz2
    have q1 : z.cell? ⟨w.heap.size + 1, 1, none⟩ = some (.int .u64 ct) := blk_cell (i := 1) hz2
    clear hz2 y1
    go_simp
    go_wp2
    refine bodyPost_ret (v := .agg #[.int .u32 n0, .int .u64 ct]) (by simp [results, Tryz.results219, go_sem, q0, q1]) rfl ⟨by rw [unhide HP], ?_⟩
    exact (unhide HBY).trans ((unhide HF).below (unhide HBY).size (fun k hk e => by omega))
end Go.Proofs.YtamafdcnbcoegaaGreat
