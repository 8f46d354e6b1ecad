/-
  Part 11 of a proof: L5, L6, K21, K22, K23, K24, K25.
-/
import Derived.Test.YtamafdcnbcoegaaGreatFe10
namespace Go.Proofs.YtamafdcnbcoegaaGreat
open Go.RowKit
theorem RowO.init {w : World} {e : TypeId} {n g o cap : Nat} {xs : List Value} (h : RowO w e 1 (.slice (some ⟨g, o, none⟩) (n + 1) cap) (n + 1) xs) : RowO w e 1 (.slice (some ⟨g, o, none⟩) n cap) n (xs.take n) := by
 obtain ⟨h1, ⟨h2, _⟩ | ⟨g', o', cap', cur, h2, hh, hn, hc, hs, ht⟩⟩ := h
 ·cases h2
 ·injection h2 with h2 _ h3
  injection h2 with h2
  injection h2 with h2 h4
  subst h2 h3 h4
  refine ⟨by simp; omega, .inr ⟨g, o, cap, cur, rfl, hh, by omega, hc, hs, ?_⟩⟩
  rw [← ht, List.take_take]
  congr 1
  omega
section
variable {w x y : World} {p : Nat} {g : Nat → Nat} {tk : Nat} {wel fen : Bool} {free : List Nat} {sh : Nat → List (Nat × Value)} {st st2 : Mod.Stv} {c : Av} {a : Mod.Ag} {op : Nat} {pl : Nat → List Nat}
theorem paStep_store (H : PaAt w p g tk wel fen free sh st c) {uv' : Value} (k1 : StAt y c.s c.dp st2 c.dlv uv') (k2 : Loc w c.duv uv') (k3 : Far (StU c.s c.dp c.dlv c.duv) w y) (hl : st2.dk.bytes.length = 1664) : PaStep w y p g tk wel fen free sh st2 c := by
 refine ⟨{ c with duv := uv' }, ⟨H.ks.far k3 (fun k hk h => H.sep k hk h), k1, H.rl.far k3 (fun g hg h => (H.sepr g hg).2 h), hl⟩, k3.mono (fun k _ h => .inr (.inl h)), ?_, rfl, rfl⟩
 have hwz := k3.size
 rintro k (hk | (rfl | rfl | hk | hk) | hk)
 ·exact .inl (.inl hk)
 ·exact .inl (.inr (.inl (.inl rfl)))
 ·exact .inl (.inr (.inl (.inr (.inl rfl))))
 ·exact .inl (.inr (.inl (.inr (.inr (.inl hk)))))
 ·rcases k2 with h | h | ⟨g, h, hg⟩
  ·rw [h] at hk; cases hk
  ·exact .inl (.inr (.inl (.inr (.inr (.inr (by rw [← h]; exact hk))))))
  ·rw [h] at hk; cases hk; exact .inr hg
 ·exact .inl (.inr (.inr hk))
theorem paAfter {z : World} {c1 : Av} (F : Far (PaU p c) w z) (N : ∀ k, PaU p c1 k → PaU p c k ∨ w.heap.size ≤ k) (t1 : c1.s = c.s) (t2 : c1.rv = c.rv) (h : PaStep z y p g tk wel fen free sh st c1) : PaStep w y p g tk wel fen free sh st c := by
 obtain ⟨c', h1, h2, h3, h4, h5⟩ := h
 refine ⟨c', h1, F.trans h2 (fun k hk hu => (N k hu).elim id (fun h => by omega)), fun k hk => ?_, h4.trans t1, h5.trans t2⟩
 rcases h3 k hk with h | h
 ·exact N k h
 ·exact .inr (Nat.le_trans F.size h)
theorem putRecord_len {st : Mod.Stv} (n i q : Nat) (b : List UInt8) (hb : b.length ≤ 20) (h : 64 * (2 + n) + 64 ≤ st.dk.bytes.length) : (st.putRecord n i q b).2.dk.bytes.length = st.dk.bytes.length := by
 unfold Mod.Stv.putRecord Mod.Dk.put
 simp only
 split
 ·rfl
 ·split
  ·rfl
  ·simp only
   exact Mod.length_setSec (Mod.length_sealB _ _ (by rw [Mod.length_recIn]; omega)) h
theorem putNumbers_len {st : Mod.Stv} (a b d : Nat) (hh : st.head ≤ 1) (h : 128 ≤ st.dk.bytes.length) : (st.putNumbers a b d).2.dk.bytes.length = st.dk.bytes.length := by
 unfold Mod.Stv.putNumbers Mod.Dk.put
 simp only
 split
 ·rfl
 ·split
  ·rfl
  ·simp only
   exact Mod.length_setSec (Mod.length_sealB _ _ (by rw [Mod.length_headIn]; omega)) (by omega)
theorem putNumbers_opening {st : Mod.Stv} (a b d : Nat) : (st.putNumbers a b d).2.opening = st.opening := rfl
end
end Go.Proofs.YtamafdcnbcoegaaGreat
namespace Go.Proofs.YtamafdcnbcoegaaGreat
open Go.RowKit
theorem size1 : (Tryz.prog.info? 3).map (·.size) = some 1 := by kernel_rfl
theorem eq_ints (S T : List Int) (w : World) : ∀ (is : List Nat), (∀ i ∈ is, i < S.length ∧ i < T.length) →
  (Op.eqItems 9999 3 1 (S.map (Value.int .i64)).toArray (T.map (Value.int .i64)).toArray is).run Tryz.prog w = .ok (is.all fun i => S.getD i 0 == T.getD i 0) w
 | [], _ => by simp [Op.eqItems]
 | i :: is, h => by
  have h0 := h i (.head _)
  have b1 : (S.map (Value.int .i64)).toArray[i]? = some (.int .i64 (S.getD i 0)) := by simp [h0.1, List.getD_eq_getElem?_getD]
  have b2 : (T.map (Value.int .i64)).toArray[i]? = some (.int .i64 (T.getD i 0)) := by simp [h0.2, List.getD_eq_getElem?_getD]
  have p1 := run_part_plain (P := Tryz.prog) w (e := 3) (by kernel_rfl) (off := i) b1
  have p2 := run_part_plain (P := Tryz.prog) w (e := 3) (by kernel_rfl) (off := i) b2
  have p3 := run_equalIn_int (P := Tryz.prog) w 9998 3 .i64 .i64 (S.getD i 0) (T.getD i 0) Tryz.underlying3
  have ih := eq_ints S T w is (fun j hj => h j (.tail _ hj))
  simp only [Op.eqItems, Nat.mul_one, Sem.run_bind, p1, p2, p3, Result.andThen_ok, List.all_cons]
  cases hc : (S.getD i 0 == T.getD i 0)
  ·simp
  ·simpa using ih
theorem eq_nums (a b c d e f : Int) (w : World) : (Op.equalIn 10000 136 (.agg #[.int .i64 a, .int .i64 b, .int .i64 c]) (.agg #[.int .i64 d, .int .i64 e, .int .i64 f])).run Tryz.prog w = .ok (a == d && (b == e && c == f)) w := by
 obtain ⟨i, hi⟩ : ∃ i, Tryz.prog.info? 3 = some i := by
  have := size1
  cases h : Tryz.prog.info? 3 with
  | none => rw [h] at this; cases this
  | some i => exact ⟨i, rfl⟩
 have hz : Tryz.prog.cellsOf 3 = 1 := by kernel_rfl
 have e := eq_ints [a, b, c] [d, e, f] w (List.range 3) (fun i hi => by have := List.mem_range.1 hi; simp; omega)
 rw [← hz] at e
 refine (run_equalIn_array (P := Tryz.prog) w 9999 #[.int .i64 a, .int .i64 b, .int .i64 c] _ Tryz.underlying136 hi).trans (e.trans ?_)
 simp [List.range_succ]
def OneI (B : Nat) (n : Nat) (v : Value) (w : World) : Prop := ∃ g, v = .slice (some ⟨g, 0, none⟩) 1 1 ∧ B ≤ g ∧ w.heap[g]? = some (.cells #[.int .i64 n] 3 (0, 0))
theorem stable_oneI (B n : Nat) : Stable (OneI B n) := fun _ _ _ h hb => by
 obtain ⟨g, e, h1, h2⟩ := h
 exact ⟨g, e, h1, (hb.block g (lt_of_block h2)).trans h2⟩
theorem stableF_oneI {B n : Nat} {E : Nat → Prop} (hE : ∀ k, E k → k < B) : StableF E (OneI B n) := fun _ _ _ h hF => by
 obtain ⟨g, e, h1, h2⟩ := h
 exact ⟨g, e, h1, hF.blk h2 (fun e => by have := hE _ e; omega)⟩
def RowI (w0 : World) (fv : Value) (l : List Nat) (v : Value) (w : World) : Prop := RowO w 3 1 v l.length (numCells l) ∧ Loc w0 fv v ∧ w0.heap.size ≤ w.heap.size
theorem stable_rowI (w0 : World) (fv : Value) (l : List Nat) : Stable (RowI w0 fv l) := fun _ _ _ h hb =>
 ⟨h.1.keep (fun g hg => hb.block g (h.1.lt g hg)), h.2.1, Nat.le_trans h.2.2 hb.size⟩
theorem stableF_rowI {w0 : World} {fv : Value} {l : List Nat} {E : Nat → Prop} (hE : ∀ k, E k → k < w0.heap.size ∧ fv.ownBlock ≠ some k) : StableF E (RowI w0 fv l) := fun _ _ _ h hF =>
 ⟨h.1.far hF (fun g hg e => by
  obtain ⟨h1, h2⟩ := hE g e
  rcases h.2.1 with h3 | h3 | ⟨k, h3, h4⟩
  ·rw [h3] at hg; cases hg
  ·rw [h3] at hg; exact h2 hg
  ·rw [h3] at hg; cases hg; omega), h.2.1, Nat.le_trans h.2.2 hF.size⟩
def agD (a : Mod.Ag) (n : Nat → Nat) (j : Nat) : Mod.Ag := { a with fl := Mod.dropTo a.fl n j }
theorem agD_zero (a : Mod.Ag) (n : Nat → Nat) : agD a n 0 = a := by unfold agD; rw [Mod.dropTo_zero]
theorem agD_self (a : Mod.Ag) (n : Nat → Nat) (j : Nat) : (agD a n j).fl j = a.fl j := Mod.dropTo_self _ _ _
theorem agD_succ (a : Mod.Ag) (n : Nat → Nat) (j : Nat) : agD a n (j + 1) = { agD a n j with fl := Mod.upd (agD a n j).fl j (((agD a n j).fl j).drop (n j)) } := by
 unfold agD
 simp only [Mod.dropTo_succ, Mod.dropTo_self]
theorem agD_three (a : Mod.Ag) (n : Nat → Nat) : agD a n 3 = a.drop n := rfl
theorem drop_none {a : Mod.Ag} {n : Nat → Nat} (h : ∀ i, i < 3 → n i = 0) : a.drop n = a := by
 unfold Mod.Ag.drop
 have : Mod.dropTo a.fl n 3 = a.fl := by
  funext t
  unfold Mod.dropTo
  split
  ·rename_i ht
   rw [h t ht]
   simp [Mod.Flow.drop]
  ·rfl
 rw [this]
theorem flat_keptL : ∀ (b : Nat) (k : List (ByteArray × Nat)) (p : List Nat) (t : Nat), p.length = k.length → (ht : t < k.length) → (flat (keptL b k p))[t * 2]? = some (.string k[t].1) ∧ (flat (keptL b k p))[t * 2 + 1]? = some (.int .i64 (p.getD t 0 : Nat))
 | b, [], _, t, _, ht => by simp at ht
 | b, _ :: _, [], t, h, _ => by simp at h
 | b, x :: r, q :: qs, 0, _, _ => by
  rw [keptL_cons]
  exact ⟨rfl, rfl⟩
 | b, x :: r, q :: qs, t + 1, h, ht => by
  have ih := flat_keptL (b + 1) r qs t (by simpa using h) (by simpa using ht)
  rw [keptL_cons]
  have hf : flat ((b + 1, recA x.1 q) :: keptL (b + 1) r qs) = [.string x.1, .int .i64 q] ++ flat (keptL (b + 1) r qs) := rfl
  rw [hf, show (t + 1) * 2 = t * 2 + 2 by omega, show t * 2 + 2 + 1 = t * 2 + 1 + 2 by omega, List.getElem?_append_right (by simp), List.getElem?_append_right (by simp)]
  simpa using ih
theorem keptL_take : ∀ (n b : Nat) (k : List (ByteArray × Nat)) (p : List Nat), (keptL b k p).take n = keptL b (k.take n) (p.take n)
 | 0, b, k, p => by cases k <;> cases p <;> rfl
 | n + 1, b, [], p => by cases p <;> rfl
 | n + 1, b, x :: r, [] => rfl
 | n + 1, b, x :: r, q :: qs => by
  rw [keptL_cons, List.take_succ_cons, List.take_succ_cons, List.take_succ_cons, keptL_cons, keptL_take n (b + 1) r qs]
theorem shTook_below {w x y : World} {p o : Nat} {t : TypeId} {arr : Array Value} {nv mv : Value} {l : List (Nat × Value)} (h : ShTook w x p o t arr nv mv l) (hb : Below x.heap.size x y) : ShTook w y p o t arr nv mv l := by
 obtain ⟨⟨nv', S, e⟩, hF⟩ := h
 exact ⟨⟨nv', ⟨(hb.block _ (lt_of_block S.blk)).trans S.blk, S.c0, S.c1, S.sh.far (far_below (E := fun _ => False) hb) (fun _ _ h => h), S.ty⟩, e⟩, hF.trans (far_below hb) (fun _ _ h => h)⟩
end Go.Proofs.YtamafdcnbcoegaaGreat
namespace Go.Proofs.YtamafdcnbcoegaaGreat
open Go.RowKit
theorem LdAt.behind {w x y : World} {p e s : Nat} {logs : Nat → List ByteArray} (h : LdAt x y p e s logs) (hb : Below w.heap.size w x) : LdAt w y p e s logs := by
 obtain ⟨arr, lv, h1, h2, h3⟩ := h
 exact ⟨arr, lv, h1, (far_below (E := fun k => k = p) hb).trans h2 (fun _ _ h => h), fun i hi g hg => Nat.le_trans hb.size (h3 i hi g hg)⟩
def newStv (L : List UInt8) (h : Mod.Hd) (at' : Nat) : Mod.Stv := ⟨h.o + 1, 1, 1 - at', ⟨Mod.openL L h at', 0, false⟩⟩
theorem newStv_eq (L : List UInt8) (h : Mod.Hd) (at' : Nat) : ((⟨h.o + 1, 0, at', ⟨L, 0, false⟩⟩ : Mod.Stv).putNumbers h.a h.b h.d).2 = newStv L h at' := by
 unfold Mod.Stv.putNumbers Mod.Dk.put newStv Mod.openL Mod.sealH
 simp [Mod.Stv.next]
theorem rs_fits {L : List UInt8} {last n : Nat} {rs : List Mod.Rc} (h : Mod.recsFrom L last 0 n = some rs) : ∀ r ∈ rs, r = Mod.rc0 ∨ r.fits := by
 intro r hr
 obtain ⟨h1, h2⟩ := Mod.recsFrom_some n 0 h
 obtain ⟨x, hx, e⟩ := List.mem_iff_getElem.1 hr
 obtain ⟨k1, k2⟩ := h2 x (by omega)
 rw [List.getElem?_eq_getElem hx, e] at k2
 cases k2
 rcases Mod.recAt_ok k1 with ⟨_, e0⟩ | ⟨_, _, _, _, _, _, hf, _⟩
 ·exact .inl e0
 ·exact .inr hf
theorem pkAt_ld {w x : World} {p e s dp : Nat} {logs : Nat → List ByteArray} {dlv duv rv : Value} {st : Mod.Stv} (h : LdAt w x p e s logs) (hs : StAt x s dp st dlv duv) (hl : st.dk.bytes.length = 7808) (hn : ∀ k, StU s dp dlv duv k → k ≠ p)
  {y : World} (hy : y = x.setCell ⟨p, 11, none⟩ rv) {R : Obj} (hr : RowO (y.alloc R) 179 2 rv 2 (rulesOf p)) :
  ∃ c, PkAt (y.alloc R) p e logs (fun _ => []) st c ∧ (∀ k, PkU p c k → k = p ∨ w.heap.size ≤ k ∨ StU s dp dlv duv k ∨ rv.ownBlock = some k) := by
 obtain ⟨arr, lv, K, F, N⟩ := h
 subst hy
 have hset := far_set x p 11 rv
 have hba : Below (x.setCell ⟨p, 11, none⟩ rv).heap.size (x.setCell ⟨p, 11, none⟩ rv) ((x.setCell ⟨p, 11, none⟩ rv).alloc R) := (Below.refl _ _).alloc (Nat.le_refl _) _
 have hF2 : Far (fun k => k = p) x ((x.setCell ⟨p, 11, none⟩ rv).alloc R) := hset.trans (far_below (E := fun _ => False) hba) (fun _ _ h => h.elim)
 have hget : ∀ j, j ≠ 11 → (arr.setIfInBounds 11 rv)[j]? = arr[j]? := fun j hj => Array.getElem?_setIfInBounds_ne (fun e => hj e.symm)
 refine ⟨⟨arr.setIfInBounds 11 rv, s, dp, lv, fun _ => .slice none 0 0, fun _ => .map none, rv, dlv, duv⟩, ⟨⟨?_, by simpa using K.sz, ?_, ?_, ?_, ?_, ?_, ?_, ?_, fun i hi => shelfIs_nil _, K.are, K.apl, K.aps, K.cnt, K.ep⟩, ?_, hr, hl⟩, ?_⟩
 ·exact (hba.block p (by simp; exact lt_of_block K.blk)).trans (blk_set K.blk)
 ·rw [hget _ (by omega)]; exact K.a0
 ·rw [hget _ (by omega)]; exact K.a1
 ·intro i hi; rw [hget _ (by omega)]; exact K.al i hi
 ·intro i hi; rw [hget _ (by omega)]; exact K.an i hi
 ·intro i hi; rw [hget _ (by omega)]; exact K.am i hi
 ·have := K.sz
  simp [this]
 ·intro i hi
  exact (K.lgs i hi).far hF2 (fun g hg e => (K.lgs i hi).ne K.blk (by decide) (by rw [hg, e]))
 ·exact hs.far hF2 (fun k hk e => hn k hk e)
 ·rintro k ((h | ⟨i, hi, h⟩ | ⟨i, hi, h⟩) | h | h)
  ·exact .inl h
  ·exact .inr (.inl (N i hi k h))
  ·rcases h with h | h <;> cases h
  ·exact .inr (.inr (.inl h))
  ·exact .inr (.inr (.inr h))
end Go.Proofs.YtamafdcnbcoegaaGreat
namespace Go.Proofs.YtamafdcnbcoegaaGreat
open Go.RowKit
set_option maxRecDepth 100000 in
set_option maxHeartbeats 8000000 in
theorem sinkOpen_some (w : World) (v : Value) (L : List UInt8) (hat : BytesAt w v L) (hL : L.length = 7808) {h : Mod.Hd} {at' : Nat} {rs : List Mod.Rc} (ho : Mod.openSt L = some (h, at', rs)) :
  Calls Tryz.prog 65 #[v] w fun r w' => (¬ (h.b = 0 ∧ h.d = 0) ∨ Mod.skLd rs 0 (fun _ => []) = none) ∧ r = .returned (.tuple #[.pointer none, .int .i64 2]) ∧ Below w.heap.size w w' ∨
   h.b = 0 ∧ h.d = 0 ∧ ∃ logs p c, Mod.skLd rs 0 (fun _ => []) = some logs ∧ r = .returned (.tuple #[ptrTo p, .int .i64 0]) ∧ PkAt w' p h.a logs (fun _ => []) (newStv L h at') c ∧ Below w.heap.size w w' ∧ ∀ k, PkU p c k → w.heap.size ≤ k := by
 have hSO := storeOpen_yes w v L 122 hat (by omega) (by omega) (by omega) ho
 rw [newStv_eq] at hSO
 obtain ⟨hne, hrf⟩ := Mod.openSt_some ho
 have hfit := rs_fits hrf
 have hrl : rs.length = 120 := by
  have := (Mod.recsFrom_some _ _ hrf).1
  rw [this, hL]
 obtain ⟨_, hok, hhd, _⟩ := Mod.newest_some hne
 have hsm := Mod.headIs_small hok
 rw [← hhd] at hsm
 have hlen : (newStv L h at').dk.bytes.length = 7808 := by
  have := (Mod.opened_ok hne (m := 122) (by omega) (by omega)).len
  exact this
 obtain ⟨ad, cap, rfl, hl1, hl2, _⟩ := hat
 obtain ⟨n, hn⟩ : ∃ n, n = L.length := ⟨_, rfl⟩
 rw [← hn] at hL hl1 hl2 hSO ⊢
 subst hL
 generalize newStv L h at' = st at *
 obtain ⟨ep, hep⟩ : ∃ ep, ep = h.a := ⟨_, rfl⟩
 obtain ⟨nb, hnb⟩ : ∃ nb, nb = h.b := ⟨_, rfl⟩
 obtain ⟨nd, hnd⟩ : ∃ nd, nd = h.d := ⟨_, rfl⟩
 rw [← hep, ← hnb, ← hnd] at hSO
 rw [← hep, ← hnb, ← hnd]
 have hep2 : ep ≤ 2147483647 := by omega
 have HSO := hide hSO
 have HH := hide (And.intro hfit (And.intro hrl (And.intro hlen hep2)))
 have hNO := fun y => hide (numbersOf_any ep y)
 clear hn ho hne hrf hok hhd hsm hSO hfit hrl hlen hep hnb hnd hep2
 obtain ⟨res, hres⟩ : ∃ res, res = Mod.skLd rs 0 (fun _ => []) := ⟨_, rfl⟩
 rw [← hres]
 unfold ptrTo at *
 go_enter Tryz.func65, Tryz.ntmps65
 go_upto_region 7 with (go_at_call 102; refine (unhide HSO).mono ?_; rintro r y ⟨s, dp, lv, uv, rv, rfl, hST, hSU, hrow, hb⟩; obtain ⟨ra, rc, rfl, _, _, hra⟩ := (RowO.of_own (ownsRow_monoB hrow (Nat.zero_le _))).shape)
 obtain ⟨gr, og, rfl, _⟩ := hra (by omega)
 have hog : og = 0 := by
  rcases hrow with ⟨_, ⟨h, _⟩ | ⟨g', cap', cur', h, _⟩⟩
  ·cases h
  ·injection h with h; injection h with h; injection h
 subst hog
 clear hra
 obtain ⟨g5, hg5⟩ : ∃ g5, g5 = y.heap.size := ⟨_, rfl⟩
 have HG5 := hide hg5
 rw [← hg5]
 have hgw : w.heap.size ≤ g5 := by have := hb.size; omega
 clear hg5
 refine wp_world (fun x => x.heap[g5]? = some (.cells #[.int .i64 ep, .int .i64 nb, .int .i64 nd, .slice (some ⟨gr, 0, none⟩) 120 rc] 187 (0, 0)) ∧ x.heap[g5 + 1]? = some (.cells (newArrE s ep (.slice none 0 0)) 176 (0, 0)) ∧ Below g5 y x) ?_ ?_
 ·rw [unhide HG5]
  exact alloc2 _ _ _
 rintro x ⟨h5, h6, hbx⟩
 have hxx := lt_of_block h6
 have hrx := ownsRow_keepB (ownsRow_monoB hrow (Nat.zero_le _)) (fun g hg => by have := (World.ownsRow.lt hrow g hg).2; exact hbx.block g (by rw [unhide HG5]; exact this))
 have hrg : (Value.slice (some ⟨gr, 0, none⟩) 120 rc).ownBlock ≠ some (g5 + 1) := fun e => (RowO.of_own hrx).ne h6 (by decide) e
 have hSTx := hide (hST.far (far_below (E := fun _ => False) (by rw [← unhide HG5]; exact hbx)) (fun _ _ h => h))
 have HSU := hide hSU
 have HB := hide (hb.trans (hbx.mono hgw))
 have H5 := hide h5
 have H6 := hide h6
 have HRX := hide hrx
 clear hST hSU hrow hrx hb hbx h5 h6 HG5
 have hnS : ¬ StU s dp lv uv (g5 + 1) := by
  rintro (h | h)
  ·have h1 := (unhide hSTx).blk
   rw [← h, unhide H6] at h1
   injection h1 with h1
   injection h1 with _ h1 _
   exact absurd h1 (by decide)
  ·exact dk_ne (unhide hSTx).dk (unhide H6) (by decide) (by decide) (by decide) h
 by_cases hbd : nb = 0 ∧ nd = 0
 ·have heq : ∀ z : World, (Op.equalIn 10000 136 (.agg #[.int .i64 ep, .int .i64 nb, .int .i64 nd]) (.agg #[.int .i64 ep, .int .i64 0, .int .i64 0])).run Tryz.prog z = .ok true z := fun z => by
   rw [eq_nums]
   simp [hbd.1, hbd.2]
  have HBD := hide hbd
  clear hbd
  have hLD := fun (z : World) (h1 : z.heap[g5 + 1]? = _) (h2 : z.ownsRow 0 155 3 (.slice (some ⟨gr, 0, none⟩) 120 rc) 120 (rcRow rs)) => hide (sinkLoad_any (p := g5 + 1) (e := ep) (s := s) h1 h2 (unhide HH).2.1 (by omega) (unhide HH).1 (unhide HH).2.2.2)
  rw [← hres] at hLD
  have HRES := hide hres
  clear hres
  unfold ptrTo at hLD
  refine wp_region_cut (by kernel_rfl)
   [fun v _ => v = .pointer (some ⟨g5, 0, none⟩), fun v _ => v = .agg #[.int .i64 ep, .int .i64 nb, .int .i64 nd], fun v _ => v = .pointer (some ⟨g5 + 1, 0, none⟩), fun v _ => v = .pointer (some ⟨g5 + 1, 0, none⟩), fun v _ => v = .pointer (some ⟨g5 + 1, 1, none⟩), fun v _ => v = .int .i64 ep, fun v _ => v = .agg #[.int .i64 ep, .int .i64 0, .int .i64 0], fun v _ => v = .bool false, fun v _ => v = .bool false,
    fun v _ => v = .pointer (some ⟨g5 + 1, 0, none⟩), fun v _ => v = .pointer (some ⟨g5, 3, none⟩), fun v _ => v = .slice (some ⟨gr, 0, none⟩) 120 rc, fun _ _ => True, fun _ _ => True, fun _ _ => True]
   [[(5, none)], [(26, some 0)], [(7, none)], [(28, some 2)], [(29, some 3)], [(30, some 4)], [(31, some 5)], [(27, some 1), (32, some 6)], [(33, some 7)], [(7, none), (34, some 8)], [(5, none), (34, some 8)], [(36, some 10), (34, some 8)], [(35, some 9), (37, some 11), (34, some 8)], [(38, some 12), (34, some 8)], [(34, some 8), (39, some 13)]] [some 26, some 27, some 28, some 29, some 30, some 31, some 32, some 33, some 34, some 35, some 36, some 37, some 38, some 39, some 40] [false, false, false, false, false, false, false, false, false, false, false, false, false, false, false, false, false, false, false, false, false, false, false, false, false, false, true, true, true, true, true, true, true, true, true, true, true, true, true, true, true, false, false, false, false, false, false, false, false, false, false, false]
   12 _ rfl (Nat.le_of_ble_eq_true (n := 13) (by kernel_rfl)) (by kernel_rfl) (by kernel_rfl) (by kernel_rfl) (by kernel_rfl) (by kernel_rfl) (by kernel_rfl) ?_ ?_ ?_ ?_
  ·repeat' (first | exact stable_eq _ | exact stable_true | exact trivial | apply And.intro)
  ·refine ⟨?_, ?_, ?_, ?_, ?_, ?_, ?_, ?_, ?_, ?_, ?_, ?_, trivial⟩
   all_goals
    intro a' z hbz hf
    have z5 := (hbz.block _ (by omega)).trans (unhide H5)
    have z6 := (hbz.block _ hxx).trans (unhide H6)
    have d0 := blk_cell (i := 0) z5
    have d1 := blk_cell (i := 1) z5
    have d2 := blk_cell (i := 2) z5
    have d3 := blk_cell (i := 3) z5
    have e1 := blk_cell (i := 1) z6
    simp [newArrE] at d0 d1 d2 d3 e1
    clear hbz z5 z6
    simp only [PlanFacts, List.getD_cons_zero, List.getD_cons_succ, Array.getD_eq_getD_getElem?] at hf
    try simp at hf
    try (have hg : a'.tmps[34]? = some (.bool false) := tmpB (by first | exact hf | exact hf.1 | exact hf.2 | exact hf.2.2))
    try go_simp
    try simp only [hg, if_true]
    try go_simp
    try exact Below.refl _ _
   all_goals first
    | exact ⟨rfl, Below.refl _ _⟩
    | exact ⟨_, rfl, Below.refl _ _, rfl⟩
    | (refine (unhide (hNO _)).mono ?_; rintro e x' ⟨rfl, hb⟩; exact ⟨rfl, hb⟩)
    | (refine (unhide (hNO _)).mono ?_; rintro e x' ⟨rfl, hb⟩; exact ⟨_, rfl, hb, rfl⟩)
    | skip
  ·intro f z hwd
   simp only [AllWords, List.take] at hwd
   have h8 := hwd.2.2.2.2.2.2.2.2.1
   clear hwd
   simp only [mergeT, h8]
   rfl
  ·intro f z hbz hwd
   simp only [AllWords, List.take] at hwd
   have h8 := hwd.2.2.2.2.2.2.2.2.1
   have h9 := hwd.2.2.2.2.2.2.2.2.2.1
   have h11 := hwd.2.2.2.2.2.2.2.2.2.2.2.1
   have z6 := (hbz.block _ hxx).trans (unhide H6)
   have hzr := ownsRow_keepB (unhide HRX) (fun g hg => hbz.block g (World.ownsRow.lt (unhide HRX) g hg).2)
   have HC := hide (unhide (hLD z z6 hzr))
   have HBZ := hide hbz
   clear hwd z6 hzr hbz hLD
   simp only [mergeT, h8, h9, h11]
   generalize f 26 = x26
   generalize f 27 = x27
   generalize f 28 = x28
   generalize f 29 = x29
   generalize f 30 = x30
   generalize f 31 = x31
   generalize f 32 = x32
   generalize f 33 = x33
   go_simp
   refine (unhide HC).mono ?_
   rintro e x' ⟨rfl, hF, hl⟩
   have HFX := hide hF
   have HLX := hide hl
   clear hF hl
   intro fuel hfu
   obtain ⟨m, rfl⟩ : ∃ m, fuel = m + 2 := ⟨fuel - 2, by omega⟩
   refine wpAny_one (i := 13) (by kernel_rfl) rfl rfl ?_
   go_simp
   refine wpAny_one (i := 14) (by kernel_rfl) rfl rfl ?_
   go_simp
   refine wpAny_end (by kernel_rfl) ?_
   have hFw : Far (fun k => k = g5 + 1) w x' := (far_below (E := fun k => k = g5 + 1) (unhide HB)).trans ((far_below (E := fun k => k = g5 + 1) (unhide HBZ)).trans (unhide HFX) (fun _ _ h => h)) (fun _ _ h => h)
   have hbw : Below w.heap.size w x' := hFw.below (Nat.le_refl _) (fun k hk h => by omega)
   cases res with
   | none =>
    have HBW := hide hbw
    clear hbw hFw HC HLX HFX HBZ
    go_wp2
    go_ret2
    first | exact .inl ⟨.inr rfl, rfl, unhide HBW⟩ | exact ⟨rfl, unhide HBW⟩ | exact .inl ⟨rfl, unhide HBW⟩
   | some logs =>
    have hL := (unhide HLX) logs rfl
    have hLx := hL.behind (unhide HBZ)
    have hFx : Far (fun k => k = g5 + 1) x x' := (far_below (E := fun k => k = g5 + 1) (unhide HBZ)).trans (unhide HFX) (fun _ _ h => h)
    have hSx' := (unhide hSTx).far hFx (fun k hk e => hnS (by rw [← e]; exact hk))
    obtain ⟨arr, lv', K, _, _⟩ := hL
    have hpx' := lt_of_block K.blk
    have q11 : x'.cell? ⟨g5 + 1, 11, none⟩ = some (.slice none 0 0) := by rw [blk_cell K.blk]; exact K.ar
    have hca : ∀ o, (x'.alloc o).cell? ⟨g5 + 1, 11, none⟩ = some (.slice none 0 0) := fun o => (World.cell?_alloc_lt x' _ ⟨g5 + 1, 11, none⟩ hpx').trans q11
    have hfa : ∀ o, (x'.alloc o).frozen? ⟨g5 + 1, 11, none⟩ = false := fun o => blk_free (i := 11) ((hao _ _ hpx').trans K.blk)
    have hzg : ¬ g5 + 1 = x'.heap.size := by omega
    have HLL := hide (And.intro hLx (And.intro hSx' hbw))
    clear q11 hLx hSx' K hFx hFw HLX HFX HBZ HC
    go_wp2
    go_ret2
    obtain ⟨hL, hS, hbw⟩ := unhide HLL
    obtain ⟨R, hR⟩ : ∃ R, R = Obj.cells (rulesOf (g5 + 1)).toArray 179 (0, 0) := ⟨_, rfl⟩
    obtain ⟨z2, hz2⟩ : ∃ z2, z2 = x'.setCell ⟨g5 + 1, 11, none⟩ (.slice (some ⟨x'.heap.size, 0, none⟩) 2 2) := ⟨_, rfl⟩
    have hsz2 : z2.heap.size = x'.heap.size := by rw [hz2, World.size_setCell]
    have hr2 : RowO (z2.alloc R) 179 2 (.slice (some ⟨x'.heap.size, 0, none⟩) 2 2) 2 (rulesOf (g5 + 1)) := by
     refine ⟨by simp [rulesOf], .inr ⟨x'.heap.size, 0, 2, (rulesOf (g5 + 1)).toArray, rfl, ?_, by omega, by unfold maxLen; omega, by simp [rulesOf], by simp [rulesOf]⟩⟩
     rw [← hsz2, heap_alloc_new, hR]
    obtain ⟨c, hPK, hPU⟩ := pkAt_ld hL hS (unhide HH).2.2.1 (fun k hk e => hnS (by rw [← e]; exact hk)) hz2 hr2
    have hR2 : R = Obj.cells #[.int .i64 1, .func (.func 109) #[.pointer (some ⟨g5 + 1, 0, none⟩)] #[], .int .i64 3, .func (.func 110) #[.pointer (some ⟨g5 + 1, 0, none⟩)] #[]] 179 (0, 0) := by rw [hR]; rfl
    subst hR2
    subst hz2
    have hwx := (unhide HB).size
    refine .inr ⟨(unhide HBD).1, (unhide HBD).2, logs, g5 + 1, c, rfl, rfl, hPK, ?_, fun k hk => ?_⟩
    ·exact (hbw.setCell (p := ⟨g5 + 1, 11, none⟩) (by show w.heap.size ≤ g5 + 1; omega) _).alloc (by rw [World.size_setCell]; exact hbw.size) _
    ·rcases hPU k hk with h | h | h | h
     ·omega
     ·omega
     ·exact (unhide HSU) k h
     ·have h2 : some x'.heap.size = some k := h
      injection h2 with h2
      have := hbw.size
      omega
 ·have heq : ∀ z : World, (Op.equalIn 10000 136 (.agg #[.int .i64 ep, .int .i64 nb, .int .i64 nd]) (.agg #[.int .i64 ep, .int .i64 0, .int .i64 0])).run Tryz.prog z = .ok false z := fun z => by
   rw [eq_nums]
   congr 1
   by_cases e1 : nb = 0
   ·have e2 : ¬ nd = 0 := fun e => hbd ⟨e1, e⟩
    have : ((nd : Int) == 0) = false := by simp; omega
    simp [e1, this]
   ·have : ((nb : Int) == 0) = false := by simp; omega
    simp [this]
  have HBD := hide hbd
  clear hbd HRX
  refine wp_region_frame (by kernel_rfl)
   [fun v _ => v = .pointer (some ⟨g5, 0, none⟩), fun v _ => v = .agg #[.int .i64 ep, .int .i64 nb, .int .i64 nd], fun v _ => v = .pointer (some ⟨g5 + 1, 0, none⟩), fun v _ => v = .pointer (some ⟨g5 + 1, 0, none⟩), fun v _ => v = .pointer (some ⟨g5 + 1, 1, none⟩), fun v _ => v = .int .i64 ep, fun v _ => v = .agg #[.int .i64 ep, .int .i64 0, .int .i64 0], fun v _ => v = .bool true, fun v _ => v = .bool true,
    fun _ _ => True, fun _ _ => True, fun _ _ => True, fun _ _ => True, fun _ _ => True, fun v _ => v = .bool true]
   [[(5, none)], [(26, some 0)], [(7, none)], [(28, some 2)], [(29, some 3)], [(30, some 4)], [(31, some 5)], [(27, some 1), (32, some 6)], [(33, some 7)], [(7, none), (34, some 8)], [(5, none), (34, some 8)], [(36, some 10), (34, some 8)], [(35, some 9), (37, some 11), (34, some 8)], [(38, some 12), (34, some 8)], [(34, some 8), (39, some 13)]] [some 26, some 27, some 28, some 29, some 30, some 31, some 32, some 33, some 34, some 35, some 36, some 37, some 38, some 39, some 40] [false, false, false, false, false, false, false, false, false, false, false, false, false, false, false, false, false, false, false, false, false, false, false, false, false, false, true, true, true, true, true, true, true, true, true, true, true, true, true, true, true, false, false, false, false, false, false, false, false, false, false, false]
   (by kernel_rfl) (by kernel_rfl) (by kernel_rfl) (by kernel_rfl) ?_ ?_ ?_
  ·repeat' (first | exact stable_eq _ | exact stable_true | exact trivial | apply And.intro)
  ·refine ⟨?_, ?_, ?_, ?_, ?_, ?_, ?_, ?_, ?_, ?_, ?_, ?_, ?_, ?_, ?_, trivial⟩
   all_goals
    intro a' z hbz hf
    have z5 := (hbz.block _ (by omega)).trans (unhide H5)
    have z6 := (hbz.block _ hxx).trans (unhide H6)
    have d0 := blk_cell (i := 0) z5
    have d1 := blk_cell (i := 1) z5
    have d2 := blk_cell (i := 2) z5
    have d3 := blk_cell (i := 3) z5
    have e1 := blk_cell (i := 1) z6
    simp [newArrE] at d0 d1 d2 d3 e1
    clear hbz z5 z6
    simp only [PlanFacts, List.getD_cons_zero, List.getD_cons_succ, Array.getD_eq_getD_getElem?] at hf
    try simp at hf
    try (have hg : a'.tmps[34]? = some (.bool true) := tmpB (by first | exact hf | exact hf.1 | exact hf.2 | exact hf.2.2))
    try go_simp
    try exact Below.refl _ _
    try trivial
   all_goals first
    | exact ⟨rfl, Below.refl _ _⟩
    | exact ⟨_, rfl, Below.refl _ _, rfl⟩
    | (refine (unhide (hNO _)).mono ?_; rintro e x' ⟨rfl, hb⟩; exact ⟨rfl, hb⟩)
    | (refine (unhide (hNO _)).mono ?_; rintro e x' ⟨rfl, hb⟩; exact ⟨_, rfl, hb, rfl⟩)
    | skip
  ·intro f z hbz hwd
   simp only [AllWords] at hwd
   have h14 := hwd.2.2.2.2.2.2.2.2.2.2.2.2.2.2.1
   have HBZ := hide ((unhide HB).trans (hbz.mono (unhide HB).size))
   clear hwd hbz
   simp only [mergeT, h14]
   generalize f 26 = x26
   generalize f 27 = x27
   generalize f 28 = x28
   generalize f 29 = x29
   generalize f 30 = x30
   generalize f 31 = x31
   generalize f 32 = x32
   generalize f 33 = x33
   generalize f 34 = x34
   generalize f 35 = x35
   generalize f 36 = x36
   generalize f 37 = x37
   generalize f 38 = x38
   generalize f 39 = x39
   go_wp2
   go_ret2
   first | exact .inl ⟨.inl (unhide HBD), rfl, unhide HBZ⟩ | exact ⟨.inl (unhide HBD), rfl, unhide HBZ⟩
end Go.Proofs.YtamafdcnbcoegaaGreat
namespace Go.Proofs.YtamafdcnbcoegaaGreat
open Go.RowKit
structure Alv (op ct n : Nat) (st : Mod.Stv) (e : Nat) (logs : Nat → List ByteArray) : Prop where
 dead : st.dk.dead = false
 arm : st.dk.armed = n
 op : st.opening = op
 ct : st.count ≤ ct
 dk : Mod.SkDisk st.dk.bytes st.opening st.count st.head e logs
structure Ded (op : Nat) (st : Mod.Stv) (e : Nat) (logs : Nat → List ByteArray) : Prop where
 dead : st.dk.dead = true
 op : st.opening = op
 dk : ∃ ct hd, Mod.SkDisk st.dk.bytes st.opening ct hd e logs
theorem alv_next {op ct n : Nat} {st : Mod.Stv} {e : Nat} {logs : Nat → List ByteArray} (h : Alv op ct n st e logs) (hct : ct + 1 < 18446744073709551616) : st.next = st.count + 1 := by
 have := h.ct
 unfold Mod.Stv.next
 omega
theorem alv_rec {op ct n : Nat} {st : Mod.Stv} {e : Nat} {logs : Nat → List ByteArray} (h : Alv op ct n st e logs) (hct : ct + 1 < 18446744073709551616) (hn : n ≠ 1) {s : Nat} (hs : s < 3) {b : ByteArray} (hb : b.size ≤ 20) (hr : Mod.cnt logs < 120) :
  (st.putRecord (Mod.cnt logs) s ((logs s).length + 1) b.data.toList).1 = 0 ∧ Alv op (ct + 1) (n - 1) (st.putRecord (Mod.cnt logs) s ((logs s).length + 1) b.data.toList).2 e (Mod.logAdd logs s b) := by
 have hnx := alv_next h hct
 have hd := h.dk.commit (b := b) hs hb hr (by have := h.ct; omega)
 have h1 := h.dead
 have h2 := h.arm
 have h3 := h.ct
 unfold Mod.Stv.putRecord Mod.Dk.put
 rw [if_neg (by rw [h1]; simp), if_neg (by rw [h2]; exact hn), hnx]
 exact ⟨rfl, rfl, by show st.dk.armed - 1 = n - 1; rw [h2], h.op, by show st.count + 1 ≤ ct + 1; omega, hd⟩
theorem ded_rec {op ct : Nat} {st : Mod.Stv} {e : Nat} {logs : Nat → List ByteArray} (h : Alv op ct 1 st e logs) (k s q : Nat) (b : List UInt8) :
  (st.putRecord k s q b).1 = 4 ∧ Ded op (st.putRecord k s q b).2 e logs := by
 have h1 := h.dead
 have h2 := h.arm
 unfold Mod.Stv.putRecord Mod.Dk.put
 rw [if_neg (by rw [h1]; simp), if_pos h2]
 exact ⟨rfl, rfl, h.op, _, _, h.dk⟩
theorem alv_num {op ct n : Nat} {st : Mod.Stv} {e : Nat} {logs : Nat → List ByteArray} (h : Alv op ct n st e logs) (hct : ct + 1 < 18446744073709551616) (hn : n ≠ 1) {e' : Nat} (he : e' ≤ 2147483647) :
  (st.putNumbers e' 0 0).1 = 0 ∧ Alv op (ct + 1) (n - 1) (st.putNumbers e' 0 0).2 e' logs := by
 have hnx := alv_next h hct
 have hd := h.dk.epoch he (by have := h.ct; omega)
 have h1 := h.dead
 have h2 := h.arm
 have h3 := h.ct
 unfold Mod.Stv.putNumbers Mod.Dk.put
 rw [if_neg (by rw [h1]; simp), if_neg (by rw [h2]; exact hn), hnx]
 exact ⟨rfl, rfl, by show st.dk.armed - 1 = n - 1; rw [h2], h.op, by show st.count + 1 ≤ ct + 1; omega, hd⟩
theorem ded_num {op ct : Nat} {st : Mod.Stv} {e : Nat} {logs : Nat → List ByteArray} (h : Alv op ct 1 st e logs) (a b c : Nat) :
  (st.putNumbers a b c).1 = 4 ∧ Ded op (st.putNumbers a b c).2 e logs := by
 have h1 := h.dead
 have h2 := h.arm
 unfold Mod.Stv.putNumbers Mod.Dk.put
 rw [if_neg (by rw [h1]; simp), if_pos h2]
 exact ⟨rfl, rfl, h.op, _, _, h.dk⟩
def DeadAt (op : Nat) (w x : World) (p e : Nat) (logs : Nat → List ByteArray) (c : Sv) : Prop := ∃ sh st, PkStep w x p e logs sh st c ∧ Ded op st e logs
def CmG (op ct n : Nat) (w x : World) (p : Nat) (a : Mod.Sk) (i : Nat) (b : ByteArray) (c : Sv) (out : List ByteArray) : Prop :=
 ∃ sh st, InCm a i ((a.logs i).length + 1) b out sh ∧ (Alv op (ct + out.length) (n - out.length) st a.epoch (grown a i out).logs ∧ (n = 0 ∨ out.length < n)) ∧ PkStep w x p a.epoch (grown a i out).logs sh st c
theorem grown_add (a : Mod.Sk) (s : Nat) (out : List ByteArray) (c : ByteArray) : Mod.logAdd (grown a s out).logs s c = (grown a s (out ++ [c])).logs := by
 have := grown_snoc a s out c
 exact this
theorem commit_gen {op ct n : Nat} {w : World} {p : Nat} {a : Mod.Sk} {sh : Nat → List (Nat × Value)} {st : Mod.Stv} {c : Sv} {out : List ByteArray} {i : Nat} (hi : i < 3) (H : PkAt w p a.epoch (grown a i out).logs sh st c) (hs : Alv op (ct + out.length) (n - out.length) st a.epoch (grown a i out).logs) (hn : n = 0 ∨ out.length < n) (b : ByteArray) (hb : b.size ≤ 20) (hroom : a.count + out.length < 120) (hct : ct + 1000 < 18446744073709551616) :
  Calls Tryz.prog 222 #[ptrTo p, .int .i64 i, .string b] w fun r w' =>
   (r = .returned (.int .i64 0) ∧ (n = 0 ∨ out.length + 1 < n) ∧ ∃ st', Alv op (ct + (out ++ [b]).length) (n - (out ++ [b]).length) st' a.epoch (grown a i (out ++ [b])).logs ∧ PkStep w w' p a.epoch (grown a i (out ++ [b])).logs sh st' c) ∨
   (r = .returned (.int .i64 4) ∧ n = out.length + 1 ∧ DeadAt op w w' p a.epoch (grown a i out).logs c) := by
 have hcn : Mod.cnt (grown a i out).logs < 120 := by
  have := grown_sum a i hi out
  unfold Mod.cnt
  omega
 refine (commit_any H i hi b hb (by rw [grown_sum a i hi]; exact hroom)).mono ?_
 rintro r w' ⟨rfl, h⟩
 by_cases h1 : n = out.length + 1
 ·right
  have hs1 : Alv op (ct + out.length) 1 st a.epoch (grown a i out).logs := by rw [show n - out.length = 1 by omega] at hs; exact hs
  obtain ⟨k1, k2⟩ := ded_rec hs1 (((grown a i out).logs 0).length + ((grown a i out).logs 1).length + ((grown a i out).logs 2).length) i (((grown a i out).logs i).length + 1) b.data.toList
  rw [k1, if_neg (by omega)] at h
  exact ⟨by rw [k1], h1, sh, _, h, k2⟩
 ·left
  obtain ⟨k1, k2⟩ := alv_rec hs (by omega) (by omega) hi hb hcn
  unfold Mod.cnt at k1 k2
  rw [k1, if_pos rfl, grown_snoc] at h
  rw [grown_add] at k2
  refine ⟨by rw [k1], by omega, _, ?_, h⟩
  rw [List.length_append, List.length_singleton, show ct + (out.length + 1) = ct + out.length + 1 by omega, show n - (out.length + 1) = n - out.length - 1 by omega]
  exact k2
theorem commit_ok {op ct n : Nat} {w : World} {p : Nat} {a : Mod.Sk} {sh : Nat → List (Nat × Value)} {st : Mod.Stv} {c : Sv} {out : List ByteArray} {i : Nat} (hi : i < 3) (H : PkAt w p a.epoch (grown a i out).logs sh st c) (hs : Alv op (ct + out.length) (n - out.length) st a.epoch (grown a i out).logs) (hn : n = 0 ∨ out.length < n) (b : ByteArray) (hb : b.size ≤ 20) (hroom : a.count + out.length < 120) (hct : ct + 1000 < 18446744073709551616) (h1 : n ≠ out.length + 1) :
  Calls Tryz.prog 222 #[ptrTo p, .int .i64 i, .string b] w fun r w' =>
   r = .returned (.int .i64 0) ∧ ∃ st', (Alv op (ct + (out ++ [b]).length) (n - (out ++ [b]).length) st' a.epoch (grown a i (out ++ [b])).logs ∧ (n = 0 ∨ (out ++ [b]).length < n)) ∧ PkStep w w' p a.epoch (grown a i (out ++ [b])).logs sh st' c := by
 refine (commit_gen hi H hs hn b hb hroom hct).mono ?_
 rintro r w' (⟨h2, h3, st', h4, h5⟩ | ⟨_, h3, _⟩)
 ·exact ⟨h2, st', ⟨h4, by rw [List.length_append, List.length_singleton]; exact h3⟩, h5⟩
 ·exact absurd h3 h1
theorem commit_bad {op ct n : Nat} {w : World} {p : Nat} {a : Mod.Sk} {sh : Nat → List (Nat × Value)} {st : Mod.Stv} {c : Sv} {out : List ByteArray} {i : Nat} (hi : i < 3) (H : PkAt w p a.epoch (grown a i out).logs sh st c) (hs : Alv op (ct + out.length) (n - out.length) st a.epoch (grown a i out).logs) (hn : n = 0 ∨ out.length < n) (b : ByteArray) (hb : b.size ≤ 20) (hroom : a.count + out.length < 120) (hct : ct + 1000 < 18446744073709551616) (h1 : n = out.length + 1) :
  Calls Tryz.prog 222 #[ptrTo p, .int .i64 i, .string b] w fun r w' =>
   r = .returned (.int .i64 4) ∧ DeadAt op w w' p a.epoch (grown a i out).logs c := by
 refine (commit_gen hi H hs hn b hb hroom hct).mono ?_
 rintro r w' (⟨_, h3, _⟩ | ⟨h2, _, h4⟩)
 ·omega
 ·exact ⟨h2, h4⟩
theorem commitFrom_pre {a : Mod.Sk} {st q n : Nat} : ∀ (f : Nat) (out : List ByteArray), ∃ more, a.commitFrom st q n f out = out ++ more
 | 0, out => ⟨[], by simp [Mod.Sk.commitFrom]⟩
 | f + 1, out => by
  unfold Mod.Sk.commitFrom
  split
  ·split
   ·exact ⟨[], by simp⟩
   ·rename_i k _
    obtain ⟨m, h⟩ := commitFrom_pre (a := a) (st := st) (q := q) (n := n) f (out ++ [(a.held.getD k (0, 0, ⟨#[]⟩)).2.2])
    exact ⟨(a.held.getD k (0, 0, ⟨#[]⟩)).2.2 :: m, by rw [h, List.append_assoc]; rfl⟩
  ·exact ⟨[], by simp⟩
def FinD (op n : Nat) (w x : World) (p : Nat) (a : Mod.Sk) (i : Nat) (b : ByteArray) (c : Sv) : Prop :=
 1 ≤ n ∧ n ≤ (a.commitFrom i ((a.logs i).length + 1) a.count 120 [b]).length ∧ DeadAt op w x p a.epoch (grown a i ((a.commitFrom i ((a.logs i).length + 1) a.count 120 [b]).take (n - 1))).logs c
theorem inCm_pre {a : Mod.Sk} {s q : Nat} {b : ByteArray} {out : List ByteArray} {sh : Nat → List (Nat × Value)} (I : InCm a s q b out sh) : ∃ more, a.commitFrom s q a.count 120 [b] = out ++ more := by
 rw [← I.run]
 exact commitFrom_pre _ _
set_option maxRecDepth 100000 in
set_option maxHeartbeats 8000000 in
theorem commitFrom_gen {op ct n : Nat} {w : World} {p : Nat} {a : Mod.Sk} {sh : Nat → List (Nat × Value)} {st : Mod.Stv} {c : Sv} (H : PkAt w p a.epoch a.logs sh st c) (hc : Alv op ct n st a.epoch a.logs) (hct : ct + 1000 < 18446744073709551616) (G : SkGood a) (M : SkMore a) (O : OnSh a.held sh) (i : Nat) (hi : i < 3) (b : ByteArray) (hb : b.size ≤ 20) (hroom : a.count < 120) :
  Calls Tryz.prog 205 #[ptrTo p, .int .i64 i, .string b] w fun r w' =>
   (r = .returned (.int .i64 0) ∧ ∃ out, CmG op ct n w w' p a i b c out ∧ out = a.commitFrom i ((a.logs i).length + 1) a.count 120 [b]) ∨
   (r = .returned (.int .i64 4) ∧ FinD op n w w' p a i b c) := by
 have I0 := inCm_start G M O H.ks.are i b hi hb hroom
 have hn0 : n = 0 ∨ ([] : List ByteArray).length < n := by simp; omega
 have hpre0 := inCm_pre I0
 have hfail : ∀ out x, n = out.length + 1 → (∃ more, a.commitFrom i ((a.logs i).length + 1) a.count 120 [b] = out ++ more ∧ more ≠ []) → DeadAt op w x p a.epoch (grown a i out).logs c → FinD op n w x p a i b c := by
  rintro out x hn ⟨more, hm, hne⟩ hd
  have hml : 0 < more.length := List.length_pos_iff.2 hne
  refine ⟨by omega, by rw [hm, List.length_append]; omega, ?_⟩
  rw [hm, show n - 1 = out.length by omega, List.take_left']
  ·exact hd
  ·rfl
 have HFAIL := fun out x h1 h2 h3 => hide (hfail out x h1 h2 h3)
 clear hfail
 have hpl := lt_of_block H.ks.blk
 have hlen : (a.logs i).length ≤ 120 := H.ks.loglen hi
 have hi0 : (0 : Int) ≤ (i : Int) := by omega
 have hi3 : (i : Int) < 3 := by omega
 have HI0 := hide I0
 have hall : ∀ y, (∃ v : Int, (v = 0 ∧ ∃ out, CmG op ct n w y p a i b c out) ∨ (v = 4 ∧ FinD op n w y p a i b c)) → Hid (∃ v : Int, (v = 0 ∧ ∃ out, CmG op ct n w y p a i b c out) ∨ (v = 4 ∧ FinD op n w y p a i b c)) := fun y h => h
 have hC0 : Calls Tryz.prog 222 #[ptrTo p, .int .i64 i, .string b] w fun r y => ∃ v : Int, r = .returned (.int .i64 v) ∧ ((v = 0 ∧ ∃ out, CmG op ct n w y p a i b c out) ∨ (v = 4 ∧ FinD op n w y p a i b c)) := by
  by_cases h1 : n = ([] : List ByteArray).length + 1
  ·refine (commit_bad (out := []) hi (by rw [grown_zero]; exact H) (by rw [grown_zero]; exact hc) hn0 b hb (by simpa using hroom) hct h1).mono ?_
   rintro r y ⟨rfl, hd⟩
   obtain ⟨m, hm⟩ := hpre0
   exact ⟨4, rfl, .inr ⟨rfl, unhide (HFAIL [] y h1 ⟨_, by rw [hm]; rfl, by simp⟩ hd)⟩⟩
  ·refine (commit_ok (out := []) hi (by rw [grown_zero]; exact H) (by rw [grown_zero]; exact hc) hn0 b hb (by simpa using hroom) hct h1).mono ?_
   rintro r y ⟨rfl, st', h2, h3⟩
   exact ⟨0, rfl, .inl ⟨rfl, [b], sh, st', I0, by simpa using h2, by simpa using h3⟩⟩
 have hC0 := hide hC0
 clear H I0 hall hpre0 hn0
 unfold ptrTo at *
 go_enter Tryz.func205, Tryz.ntmps205
 go_upto_region 3 with (go_at_call 222; refine (unhide hC0).mono ?_; rintro r y ⟨v0, rfl, hv0⟩)
 have HV0 := hide hv0
 clear hv0 HI0 hC0
 go_loopw [8, 9, 10] (fun v8 _ _ wr => ∃ v : Int, v8 = .int .i64 v ∧ ((v = 0 ∧ ∃ out, CmG op ct n w wr p a i b c out) ∨ (v = 4 ∧ FinD op n w wr p a i b c))) (fun v8 _ _ wr => if intOf v8 = 0 then 200 - sliceLen (wr.cell? ⟨p, 2 + i * 3, none⟩) else 0)
 case atStart => exact ⟨v0, rfl, unhide HV0⟩
 case round =>
  obtain ⟨v, rfl, hrel⟩ := hrel
  clear HV0
  rcases hrel with ⟨rfl, hrel⟩ | ⟨rfl, hfin⟩
  ·obtain ⟨out, sh1, st1, I, hs1, hk1⟩ := hrel
   obtain ⟨c1, K1, F1, N1, e1, e2⟩ := id hk1
   have hgs := grown_self a i out
   obtain ⟨ad, cap, hlv, clog⟩ := K1.ks.logc hi
   rw [hgs, List.length_append] at hlv clog
   have hRM := hide (hasRoom_any K1.ks)
   rw [grown_sum a i hi] at hRM
   have HI := hide I
   have HK := hide hk1
   have HK1 := hide K1
   have hmes : 200 - sliceLen (wr.cell? ⟨p, 2 + i * 3, none⟩) = 200 - ((a.logs i).length + out.length) := by rw [clog]; rfl
   by_cases hr : a.count + out.length < 120
   ·rw [decide_eq_true hr] at hRM
    obtain ⟨q, hq⟩ : ∃ q, q = (a.logs i).length + out.length + 1 := ⟨_, rfl⟩
    have hoL : out.length ≤ 120 := by omega
    have hNX := fun y (hy : Below wr.heap.size wr y) => hide (sinkNext_any y p (2 + i * 3) _ cap ad ((hy.cell (p := ⟨p, 2 + i * 3, none⟩) (lt_of_block K1.ks.blk)).trans clog) (by omega))
    rw [← hq] at hNX
    have hTK : ∃ (tb : ByteArray) (hv : Bool) (sh2 : Nat → List (Nat × Value)), (∀ y, Below wr.heap.size wr y → Calls Tryz.prog 223 #[.pointer (some ⟨p, 2 + i * 3 + 1, none⟩), .int .i64 q] y fun r w' => r = .returned (.tuple #[.agg #[.string tb], .bool hv]) ∧ TkAt wr w' p a.epoch (grown a i out).logs sh2 st1 c1 ∧ Far (fun k => k = p ∨ ShU (c1.nv i) (c1.mv i) k) y w') ∧
      ((hv = true ∧ look (sh1 i) (q : Int) = some (recS tb) ∧ sh2 = fun t => if t = i then delL (sh1 i) q else sh1 t) ∨ (hv = false ∧ look (sh1 i) (q : Int) = none ∧ sh2 = sh1)) := by
     rcases areS_look (K1.ks.are i hi) (q : Int) with ⟨tb, hl⟩ | hl
     ·refine ⟨tb, true, _, ?_, .inl ⟨rfl, hl, rfl⟩⟩
      intro y hy
      have Ky := K1.far (far_below (E := fun _ => False) hy) (fun _ _ h => h)
      refine (takeS_some (Ky.shAt hi) q tb hl).mono ?_
      rintro r w' ⟨rfl, hT⟩
      obtain ⟨c', h1, h2, h3, h4, h5⟩ := tkAt_took Ky hi hT (fun x hx => K1.ks.are i hi x ((delL_sub _ _).subset hx))
      exact ⟨rfl, ⟨c', h1, h2, (far_below (E := PkU p c1) hy).trans h3 (fun _ _ h => h), h4, h5⟩, hT.far⟩
     ·refine ⟨⟨#[]⟩, false, _, ?_, .inr ⟨rfl, hl, rfl⟩⟩
      intro y hy
      have Ky := K1.far (far_below (E := fun _ => False) hy) (fun _ _ h => h)
      refine (takeS_none (Ky.shAt hi) q hl).mono ?_
      rintro r w' ⟨rfl, hT⟩
      exact ⟨rfl, ⟨c1, Ky.far (far_below (E := fun _ => False) hT) (fun _ _ h => h), fun _ h => h, (far_below (E := PkU p c1) hy).trans (far_below hT) (fun _ _ h => h), rfl, rfl⟩, far_below hT⟩
    have hEl : ∀ k, (k = p ∨ ShU (c1.nv i) (c1.mv i) k) → k < wr.heap.size := fun k hk => K1.ks.lt k (hk.elim .inl (fun h => .inr (.inr ⟨i, hi, h⟩)))
    have hUl : ∀ k, PkU p c1 k → k < wr.heap.size := K1.lt
    have hSort := (K1.ks.shs i hi).sorted
    have hN1 : ∀ k, PkU p c1 k → PkU p c k ∨ w.heap.size ≤ k := N1
    have hFw := F1
    obtain ⟨tb, hv, sh2, hT1, hT2⟩ := hTK
    have HT1 := hide hT1
    have HT2 := hide hT2
    have HQ := hide hq
    have HSORT := hide hSort
    have HMES := hide hmes
    have HFN := hide (And.intro hN1 (And.intro hFw (And.intro e1 e2)))
    clear hk1 K1 F1 N1 I hlv clog hgs hmes hT1 hT2 hq hSort hN1 hFw e1 e2
    unfold ptrTo at hRM
    go_upto_region 4 with (go_at_call 204; refine (unhide hRM).mono ?_; rintro r y ⟨rfl, rfl⟩)
    refine wp_region_key (by kernel_rfl)
     [fun v _ => v = .pointer (some ⟨p, 2 + i * 3, none⟩), fun v _ => v = .pointer (some ⟨p, 2 + i * 3, none⟩), fun v _ => v = .pointer (some ⟨p, 2 + i * 3 + 1, none⟩), fun v _ => v = .pointer (some ⟨p, 2 + i * 3, none⟩), fun v _ => v = .int .i64 q, fun v z => v = .tuple #[.agg #[.string tb], .bool hv] ∧ TkAt y z p a.epoch (grown a i out).logs sh2 st1 c1, fun v _ => v = .tuple #[.agg #[.string tb], .bool hv], fun v _ => v = .agg #[.string tb], fun v _ => v = .bool hv,
     fun v z => ∃ g x, v = .pointer (some ⟨g, 0, none⟩) ∧ y.heap.size ≤ g ∧ z.heap[g]? = some (.cells #[.string x] 235 (0, 0)), fun v z => ∃ g, v = .pointer (some ⟨g, 0, none⟩) ∧ y.heap.size ≤ g ∧ z.heap[g]? = some (.cells #[.string tb] 235 (0, 0)), fun v _ => v = .bool hv]
     [[(7, none)], [(27, some 0)], [(28, some 1)], [(7, none)], [(30, some 3)], [(29, some 2), (31, some 4)], [(32, some 5)], [(26, some 6)], [(26, some 6)], [], [(9, some 9), (33, some 7)], [(34, some 8)]] [27, 28, 29, 30, 31, 32, 26, 33, 34, 9, 9, 10] [false, false, false, false, false, false, false, false, false, true, true, false, false, false, false, false, false, false, false, false, false, false, false, false, false, false, true, true, true, true, true, true, true, true, true, false, false, false, false, false, false, false, false]
     [(5, fun k => k = p ∨ ShU (c1.nv i) (c1.mv i) k), (10, fun k => y.heap.size ≤ k)]
     10 RecKept recKept_refl
     (by kernel_rfl) (by kernel_rfl) (by kernel_rfl) (by kernel_rfl) (by kernel_rfl) (by kernel_rfl) ?_ ?_ ?_ ?_
    ·repeat' (first | exact stable_eq _ | exact stable_true | exact (fun _ u z h hb => ⟨h.1, h.2.far hUl (far_below (E := fun _ => False) hb) (fun _ h => h.elim)⟩) | exact (fun _ u z h hb => h.imp fun _ h => h.imp fun _ h => ⟨h.1, h.2.1, (hb.block _ (lt_of_block h.2.2)).trans h.2.2⟩) | exact (fun _ u z h hb => h.imp fun _ h => ⟨h.1, h.2.1, (hb.block _ (lt_of_block h.2.2)).trans h.2.2⟩) | exact trivial | apply And.intro)
    ·refine ⟨?_, ?_, trivial⟩
     ·repeat' (first | exact trivial | exact .inl rfl | exact .inr (.inr (stableX_of (stableF_eq _ _))) | exact .inr (.inr (stableX_of (fun _ u z h hF => h.imp fun g h => h.imp fun _ h => ⟨h.1, h.2.1, hF.blk h.2.2 (fun e => by have := hEl g e; omega)⟩))) | exact .inr (.inr (stableX_of (fun _ u z h hF => h.imp fun g h => ⟨h.1, h.2.1, hF.blk h.2.2 (fun e => by have := hEl g e; omega)⟩))) | apply And.intro)
     ·repeat' (first | exact trivial | exact .inl rfl | exact .inr (.inr (stableX_of (stableF_eq _ _))) | exact .inr (.inr (stableX_of (fun _ u z h hF => ⟨h.1, h.2.far hUl hF (fun _ h => h)⟩))) | exact .inr (.inr (fun _ u z h _ hX => h.imp fun g h => by obtain ⟨x, h1, h2, h3⟩ := h; obtain ⟨x', h4⟩ := hX rfl g x h3; exact ⟨x', h1, h2, h4⟩)) | apply And.intro)
    ·refine ⟨?_, ?_, ?_, ?_, ?_, ?_, ?_, ?_, ?_, ?_, ?_, ?_, trivial⟩
     all_goals
      intro a' z hb hf
      simp only [PlanFacts, List.getD_cons_zero, List.getD_cons_succ, Array.getD_eq_getD_getElem?] at hf
      try simp at hf
     iterate 4
      ·clear hb
       go_simp
       exact ⟨_, rfl, Far.refl _ _, rfl⟩
     ·have hbz : Below y.heap.size y z := hb.below (Nat.le_refl _) (by
       rintro k hk ⟨q', hq', g1, g2, g3⟩
       simp at hq'
       rcases hq' with rfl | rfl
       ·exact absurd (show depB _ 5 4 = false from g2) (by decide +kernel)
       ·have g3 : y.heap.size ≤ k := g3
        omega)
      have HC := hide (unhide (hNX z hbz))
      clear hb hbz
      go_simp
      refine (unhide HC).mono ?_
      rintro r z2 ⟨rfl, rfl⟩
      exact ⟨_, rfl, Far.refl _ _, rfl⟩
     ·have hbz : Below y.heap.size y z := hb.below (Nat.le_refl _) (by
       rintro k hk ⟨q', hq', g1, g2, g3⟩
       simp at hq'
       rcases hq' with rfl | rfl
       ·exact g1 rfl
       ·have g3 : y.heap.size ≤ k := g3
        omega)
      have HC := hide ((unhide HT1) z hbz)
      clear hb hbz
      go_simp
      refine (unhide HC).mono ?_
      rintro r z2 ⟨rfl, h1, h2⟩
      exact ⟨_, rfl, footOf_of (.head _) h2, ⟨rfl, h1⟩⟩
     ·obtain ⟨hf, _⟩ := hf
      clear hb
      go_simp
      exact ⟨_, rfl, Far.refl _ _, rfl⟩
     iterate 2
      ·clear hb
       go_simp
       exact ⟨_, rfl, Far.refl _ _, rfl⟩
     ·have hzz := hb.size
      clear hb
      go_simp
      exact ⟨_, rfl, far_below ((Below.refl _ _).alloc (Nat.le_refl _) _), ⟨_, rfl, hzz, ⟨#[]⟩, heap_alloc_new _ _⟩⟩
     ·obtain ⟨⟨g, hg1, hg2, x0, hg3⟩, hf33⟩ := hf
      clear hb
      have y0 : z.cell? ⟨g, 0, none⟩ = some (.string x0) := blk_cell (i := 0) hg3
      have yf : z.frozen? ⟨g, 0, none⟩ = false := blk_free (i := 0) hg3
      have HG := hide (And.intro hg2 hg3)
      clear hg2 hg3
      have hk9 := hg1
      go_simp
      obtain ⟨g1, g2⟩ := unhide HG
      refine ⟨footOf_of (.tail _ (.head _)) ((far_set z g 0 (.string tb)).mono (fun k _ e => by rw [e]; exact g1)), ⟨undef, g, ?_, g1, ?_⟩, ?_⟩
      ·show a'.tmps.getD 9 undef = _
       rw [Array.getD_eq_getD_getElem?]
       exact hk9
      ·have := blk_set (j := 0) (v := .string tb) g2
       simpa using this
      ·exact recKept_set z g tb
     ·clear hb
      go_simp
      exact ⟨_, rfl, Far.refl _ _, rfl⟩
    ·intro f z hF hwd
     obtain ⟨_, hT⟩ := hwd.2.2.2.2.2.1
     obtain ⟨g, hg1, hg2, hg3⟩ := hwd.2.2.2.2.2.2.2.2.2.2.1
     have h10 := hwd.2.2.2.2.2.2.2.2.2.2.2.1
     clear hwd hF
     simp only [mergeT, hg1, h10]
     generalize f 26 = x26
     generalize f 27 = x27
     generalize f 28 = x28
     generalize f 29 = x29
     generalize f 30 = x30
     generalize f 31 = x31
     generalize f 32 = x32
     generalize f 33 = x33
     generalize f 34 = x34
     obtain ⟨hN1, hFw, e1, e2⟩ := unhide HFN
     obtain ⟨c2, K2, S2, F2, t1, t2⟩ := hT
     have hST : PkStep w z p a.epoch (grown a i out).logs sh2 st1 c := ⟨c2, K2, hFw.trans F2 (fun k hk hu => (hN1 k hu).elim id (fun h => by omega)), fun k hk => hN1 k (S2 k hk), t1.trans e1, t2.trans e2⟩
     have HST := hide hST
     have zb : z.cell? ⟨g, 0, none⟩ = some (.string tb) := blk_cell (i := 0) hg3
     have HK2 := hide K2
     have hlow : ∀ k, PkU p c2 k → PkU p c k ∨ w.heap.size ≤ k := fun k hk => hN1 k (S2 k hk)
     have hfz := hFw.trans F2 (fun k hk hu => (hN1 k hu).elim id (fun h => by omega))
     have HLOW := hide (And.intro hlow (And.intro hfz (And.intro (t1.trans e1) (t2.trans e2))))
     rcases unhide HT2 with ⟨rfl, hl, hsh⟩ | ⟨rfl, hl, hsh⟩
     ·have hq := unhide HQ
      have I := unhide HI
      have hbt : tb.size ≤ 20 := M.bod _ ((I.on i hi q tb).1 hl).1
      rw [hq] at hl hsh
      have I2 := inCm_next G M hi I hr (unhide HSORT) hl
      rw [← hsh] at I2
      obtain ⟨hsa, hsn⟩ := hs1
      obtain ⟨more2, hm2⟩ := inCm_pre I2
      have hcomp : ∀ logs sh st u, PkStep z u p a.epoch logs sh st c2 → PkStep w u p a.epoch logs sh st c := by
       rintro logs sh st u ⟨c3, K3, F3, N3, s1, s2⟩
       refine ⟨c3, K3, hfz.trans F3 (fun k hk hu => (hlow k hu).elim id (fun h => by omega)), fun k hk => ?_, s1.trans (t1.trans e1), s2.trans (t2.trans e2)⟩
       have hsz := hfz.size
       rcases N3 k hk with h | h
       ·exact hlow k h
       ·exact .inr (Nat.le_trans hsz h)
      have hCM : Calls Tryz.prog 222 #[ptrTo p, .int .i64 i, .string tb] z fun r u => ∃ v : Int, r = .returned (.int .i64 v) ∧ ((v = 0 ∧ CmG op ct n w u p a i b c (out ++ [tb])) ∨ (v = 4 ∧ FinD op n w u p a i b c)) := by
       by_cases h1 : n = out.length + 1
       ·refine (commit_bad (out := out) hi K2 hsa hsn tb hbt hr hct h1).mono ?_
        rintro r u ⟨rfl, sh3, st3, hd1, hd2⟩
        exact ⟨4, rfl, .inr ⟨rfl, unhide (HFAIL out u h1 ⟨tb :: more2, by rw [hm2]; simp, by simp⟩ ⟨sh3, st3, hcomp _ _ _ _ hd1, hd2⟩)⟩⟩
       ·refine (commit_ok (out := out) hi K2 hsa hsn tb hbt hr hct h1).mono ?_
        rintro r u ⟨rfl, st', h2, h3⟩
        exact ⟨0, rfl, .inl ⟨rfl, sh2, st', I2, h2, hcomp _ _ _ _ h3⟩⟩
      have HCM := hide hCM
      unfold ptrTo at HCM
      clear hl hsh hq I I2 hST K2 S2 F2 hlow hfz hN1 hFw e1 e2 t1 t2 hg3 HT1 HT2 HQ HI HK HK1 HFN HST hcomp hCM hsa hsn hm2 HLOW HK2
      go_wp2_with (go_at_call 222; refine (unhide HCM).mono ?_; rintro r u ⟨v, rfl, hv⟩; replace hv := hide hv)
      have hmes := unhide HMES
      go_roundw
      case rel =>
       rcases unhide hv with ⟨rfl, h⟩ | ⟨rfl, h⟩
       ·exact ⟨0, rfl, .inl ⟨rfl, _, h⟩⟩
       ·exact ⟨4, rfl, .inr ⟨rfl, h⟩⟩
      case measure =>
       rcases unhide hv with ⟨rfl, sh3, st3, _, _, c3, K3, _⟩ | ⟨rfl, h⟩
       ·obtain ⟨ad3, cap3, _, cl⟩ := K3.ks.logc hi
        rw [hmes, cl]
        show (if (0 : Int) = 0 then 200 - ((grown a i (out ++ [tb])).logs i).length else 0) < (if (0 : Int) = 0 then _ else 0)
        rw [if_pos rfl, if_pos rfl, grown_self, List.length_append, List.length_append, List.length_singleton]
        have hcl := count_len (a := a) hi
        omega
       ·rw [hmes]
        show (if (4 : Int) = 0 then _ else 0) < (if (0 : Int) = 0 then _ else 0)
        rw [if_neg (by omega), if_pos rfl]
        have hcl := count_len (a := a) hi
        omega
     ·have hq := unhide HQ
      have I := unhide HI
      rw [hq] at hl
      have HOUT := hide (inCm_stop hi I (.inr hl))
      subst hsh
      clear hl hq I hST K2 S2 F2 hlow hfz hN1 hFw e1 e2 t1 t2 hg3 HT1 HT2 HQ HK HK1 HFN HLOW HK2
      go_wp2
      go_ret
      exact .inl ⟨rfl, out, ⟨_, st1, unhide HI, hs1, unhide HST⟩, unhide HOUT⟩
   ·rw [decide_eq_false hr] at hRM
    have HST := hide (inCm_stop hi I (.inl hr))
    clear hk1 K1 F1 N1 I hlv clog hgs hmes
    unfold ptrTo at hRM
    go_wp2_with (go_at_call 204; refine (unhide hRM).mono ?_; rintro r y ⟨rfl, rfl⟩)
    go_ret
    exact .inl ⟨rfl, out, ⟨sh1, st1, unhide HI, hs1, unhide HK⟩, unhide HST⟩
  ·have HFN := hide hfin
   clear hfin HFAIL
   go_wp2
   go_ret
   exact .inr ⟨rfl, unhide HFN⟩
end Go.Proofs.YtamafdcnbcoegaaGreat
namespace Go.Proofs.YtamafdcnbcoegaaGreat
open Go.RowKit
def SkIs2 (op ct n : Nat) (w x : World) (p : Nat) (a : Mod.Sk) (c : Sv) : Prop := ∃ sh st, PkStep w x p a.epoch a.logs sh st c ∧ Alv op ct n st a.epoch a.logs ∧ OnSh a.held sh
theorem SkIs2.behind {op ct n : Nat} {w x y : World} {p : Nat} {a : Mod.Sk} {c : Sv} (h : SkIs2 op ct n x y p a c) (hb : Below w.heap.size w x) : SkIs2 op ct n w y p a c := by
 obtain ⟨sh, st, ⟨c', K, F, N, s1, s2⟩, hs, O⟩ := h
 exact ⟨sh, st, ⟨c', K, (far_below (E := PkU p c) hb).trans F (fun _ _ h => h), fun k hk => (N k hk).imp id (fun h => Nat.le_trans hb.size h), s1, s2⟩, hs, O⟩
theorem SkIs2.below {op ct n : Nat} {w x y : World} {p : Nat} {a : Mod.Sk} {c : Sv} (h : SkIs2 op ct n w x p a c) (hb : Below x.heap.size x y) : SkIs2 op ct n w y p a c := by
 obtain ⟨sh, st, h, hs, O⟩ := h
 exact ⟨sh, st, h.below hb, hs, O⟩
theorem skIs2_refl {op ct n : Nat} {w : World} {p : Nat} {a : Mod.Sk} {sh : Nat → List (Nat × Value)} {st : Mod.Stv} {c : Sv} (H : PkAt w p a.epoch a.logs sh st c) (hs : Alv op ct n st a.epoch a.logs) (O : OnSh a.held sh) : SkIs2 op ct n w w p a c := ⟨sh, st, pkStep_refl H, hs, O⟩
theorem DeadAt.behind {op : Nat} {w x y : World} {p e : Nat} {logs : Nat → List ByteArray} {c : Sv} (h : DeadAt op x y p e logs c) (hb : Below w.heap.size w x) : DeadAt op w y p e logs c := by
 obtain ⟨sh, st, ⟨c', K, F, N, s1, s2⟩, hs⟩ := h
 exact ⟨sh, st, ⟨c', K, (far_below (E := PkU p c) hb).trans F (fun _ _ h => h), fun k hk => (N k hk).imp id (fun h => Nat.le_trans hb.size h), s1, s2⟩, hs⟩
def SkOut (op ct n : Nat) (w x : World) (p : Nat) (a a' : Mod.Sk) (i : Nat) (cms : List ByteArray) (k : Nat) (c : Sv) (v : Int) : Prop :=
 (v = 0 ∧ (n = 0 ∨ k < n) ∧ SkIs2 op (ct + k) (n - k) w x p a' c) ∨ (v = 4 ∧ 1 ≤ n ∧ n ≤ k ∧ DeadAt op w x p a.epoch (grown a i (cms.take (n - 1))).logs c)
theorem skOut_same {op ct n : Nat} {w x : World} {p : Nat} {a a' : Mod.Sk} {i : Nat} {cms : List ByteArray} {c : Sv} (h : SkIs2 op ct n w x p a' c) : SkOut op ct n w x p a a' i cms 0 c 0 := .inl ⟨rfl, by omega, h⟩
theorem SkOut.behind {op ct n : Nat} {w x y : World} {p : Nat} {a a' : Mod.Sk} {i : Nat} {cms : List ByteArray} {k : Nat} {c : Sv} {v : Int} (h : SkOut op ct n x y p a a' i cms k c v) (hb : Below w.heap.size w x) : SkOut op ct n w y p a a' i cms k c v := by
 rcases h with ⟨h1, h2, h3⟩ | ⟨h1, h2, h3, h4⟩
 ·exact .inl ⟨h1, h2, h3.behind hb⟩
 ·exact .inr ⟨h1, h2, h3, h4.behind hb⟩
set_option maxRecDepth 100000 in
set_option maxHeartbeats 4000000 in
theorem take_gen {op ct n : Nat} {w : World} {p : Nat} {a : Mod.Sk} {sh : Nat → List (Nat × Value)} {st : Mod.Stv} {c : Sv} (H : PkAt w p a.epoch a.logs sh st c) (hs : Alv op ct n st a.epoch a.logs) (hct : ct + 1000 < 18446744073709551616) (G : SkGood a) (M : SkMore a) (O : OnSh a.held sh) (e : Int) (i q : Nat) (hi : i < 3) (hq : q ≤ 2147483647) (b : ByteArray) (hb : b.size ≤ 20) :
  Calls Tryz.prog 163 #[ptrTo p, .agg #[.int .i64 3, .int .i64 e, .int .i64 i, .int .i64 q, .string b]] w fun r w' => ∃ v, r = .returned (.int .i64 v) ∧ SkOut op ct n w w' p a (skAfter a 3 a.epoch i q b) i (a.commits 3 a.epoch i q b) (a.commits 3 a.epoch i q b).length c v := by
 have hpl := lt_of_block H.ks.blk
 obtain ⟨ad, cap, hlv, clog⟩ := H.ks.logc hi
 have hll := H.ks.loglen hi
 obtain ⟨n1, hn1⟩ : ∃ n1, n1 = (a.logs i).length + 1 := ⟨_, rfl⟩
 obtain ⟨d, hd⟩ : ∃ d : Int, d = (q : Int) - (n1 : Int) := ⟨_, rfl⟩
 have hw : IntKind.i64.wrap ((q : Int) - (n1 : Int)) = d := by rw [IntKind.wrap_i64]; omega
 have hNX := fun y (hy : Below w.heap.size w y) => hide (sinkNext_any y p (2 + i * 3) _ cap ad ((hy.cell (p := ⟨p, 2 + i * 3, none⟩) hpl).trans clog) (by omega))
 rw [← hn1] at hNX
 have hHR := fun y (hy : Below w.heap.size w y) => hide (hasRoom_any (H.ks.far (far_below (E := fun _ => False) hy) (fun _ _ h => h)))
 have hPK := fun y (hy : Below w.heap.size w y) => hide (H.far (far_below (E := fun _ => False) hy) (fun _ _ h => h))
 obtain ⟨room, hroom⟩ : ∃ room, room = decide ((a.logs 0).length + (a.logs 1).length + (a.logs 2).length < 120) := ⟨_, rfl⟩
 rw [← hroom] at hHR
 have hi0 : (0 : Int) ≤ (i : Int) := by omega
 have hi3 : (i : Int) < 3 := by omega
 have HD := hide (And.intro hn1 (And.intro hd (And.intro hroom hll)))
 have HH := hide H
 have hBX := hide (boxAt_new w #[.int .i64 3, .int .i64 e, .int .i64 i, .int .i64 q, .string b])
 clear H hlv clog hn1 hd hroom
 unfold ptrTo at *
 go_enter Tryz.func163, Tryz.ntmps163
 go_upto_region 1 with fail
 refine wp_world (BoxAt w #[.int .i64 3, .int .i64 e, .int .i64 i, .int .i64 q, .string b]) (unhide hBX) ?_
 clear hBX
 intro x X
 have y2 := blk_cell (i := 2) X.box
 have y3 := blk_cell (i := 3) X.box
 simp at y2 y3
 have hXb := X.bel
 have HX := hide X
 clear X
 go_quiet (fail)
 go_upto_region 2 with fail
 refine wp_world (BoxAt w #[.int .i64 3, .int .i64 e, .int .i64 i, .int .i64 q, .string b]) ((unhide HX).drewN _) ?_
 clear HX y2 y3 hXb
 intro x2 X
 have y3 := blk_cell (i := 3) X.box
 simp at y3
 have hN := fun n => hide (unhide (hNX (x2.drewN n) (X.drewN n).bel))
 have HX := hide X
 clear X hNX
 go_quiet (first | (go_at_call 158; exact Calls.quiet_of_same (unhide (hN _))))
 go_upto_region 3 with fail
 refine wp_world (BoxAt w #[.int .i64 3, .int .i64 e, .int .i64 i, .int .i64 q, .string b]) (by first | exact unhide HX | exact (unhide HX).drewN _ | exact (unhide HX).drew | exact (unhide HX).drew.drew) ?_
 clear HX y3 hN
 intro x3 X
 have y2 := blk_cell (i := 2) X.box
 have y3 := blk_cell (i := 3) X.box
 have y4 := blk_cell (i := 4) X.box
 simp at y2 y3 y4
 have hHX := hide (unhide (hHR x3 X.bel))
 have HPX := unhide (hPK x3 X.bel)
 have HX := hide X
 clear X hHR hPK
 have hstay := hide ((skIs2_refl HPX hs O).behind (unhide HX).bel)
 by_cases hd0 : d = 0
 ·have hq1 : q = (a.logs i).length + 1 := by obtain ⟨h1, h2, _⟩ := unhide HD; omega
  have HQ1 := hide hq1
  clear hq1
  subst hd0
  cases hrv : room
  ·have hnr : ¬ (q = (a.logs i).length + 1 ∧ a.count < 120) := by
    have h := (unhide HD).2.2.1
    rw [hrv] at h
    have h := of_decide_eq_false h.symm
    exact fun h' => h h'.2
   have HCM := hide (commits_other (b := b) hnr)
   have hno : skAfter a 3 a.epoch i q b = a := by
    rw [skAfter_hold hnr, holdIt, if_neg (fun h => by have := unhide HQ1; omega)]
   rw [hrv] at hHX
   have HNO := hide hno
   clear HPX hnr hno hrv
   go_upto_region 5 with (go_at_call 204; refine (unhide hHX).mono ?_; rintro r y ⟨rfl, rfl⟩)
   go_quiet (fail)
   go_wp2
   go_ret
   exact ⟨0, rfl, by rw [unhide HNO, unhide HCM]; exact skOut_same ((unhide hstay).below (below_drewN (Below.refl _ _) _))⟩
  ·have hr : a.count < 120 := by
    have h := (unhide HD).2.2.1
    rw [hrv] at h
    exact of_decide_eq_true h.symm
   have hCF := hide (commitFrom_gen HPX hs hct G M O i hi b hb hr)
   rw [hrv] at hHX
   have HR := hide hr
   have hCF' : Calls Tryz.prog 205 #[ptrTo p, .int .i64 i, .string b] x3 fun r w' => ∃ v : Int, r = .returned (.int .i64 v) ∧ SkOut op ct n x3 w' p a (takeIt a i (a.commitFrom i ((a.logs i).length + 1) a.count 120 [b])) i (a.commitFrom i ((a.logs i).length + 1) a.count 120 [b]) (a.commitFrom i ((a.logs i).length + 1) a.count 120 [b]).length c v := by
    refine (unhide hCF).mono ?_
    rintro r y (⟨rfl, out, ⟨sh2, st2, I, hs2, hk2⟩, hout⟩ | ⟨rfl, h1, h2, h3⟩)
    ·rw [← hout]
     exact ⟨0, rfl, .inl ⟨rfl, hs2.2, sh2, st2, hk2, hs2.1, inCm_on I⟩⟩
    ·exact ⟨4, rfl, .inr ⟨rfl, h1, h2, h3⟩⟩
   have hCF' := hide hCF'
   clear hCF
   unfold ptrTo at hCF'
   clear HPX hrv hr
   go_wp2_with (first | (go_at_call 204; refine (unhide hHX).mono ?_; rintro r y ⟨rfl, rfl⟩) | (go_at_call 205; refine (unhide hCF').mono ?_; rintro r y ⟨v, rfl, hv⟩; replace hv := hide hv))
   go_ret
   refine ⟨v, rfl, ?_⟩
   rw [unhide HQ1, skAfter_take (unhide HR), commits_some (unhide HR)]
   exact (unhide hv).behind (unhide HX).bel
 ·have hdb : (d == 0) = false := by simpa using hd0
  have hnr : ¬ (q = (a.logs i).length + 1 ∧ a.count < 120) := fun h => by obtain ⟨h1, h2, _⟩ := unhide HD; omega
  have hsk := skAfter_hold (b := b) hnr
  have HCM := hide (commits_other (b := b) hnr)
  clear hnr
  by_cases h1 : 1 ≤ d
  ·by_cases h3 : d ≤ 3
   ·have hHas := hide (hasS_any HPX.ks.blk (HPX.ks.am i hi) (HPX.ks.shs i hi) (HPX.ks.are i hi) (q : Int))
    have hsort := (HPX.ks.shs i hi).sorted
    have hix := onSh_ix O HPX.ks.are hi q
    have hsm := onSh_small G O HPX.ks.are hi hsort
    obtain ⟨ho, hho⟩ : ∃ ho, ho = (look (sh i) (q : Int)).isSome := ⟨_, rfl⟩
    have hHas := fun y (hy : Below x3.heap.size x3 y) => hide (hasS_any (HPX.far (far_below (E := fun _ => False) hy) (fun _ _ h => h)).ks.blk (HPX.ks.am i hi) ((HPX.far (far_below (E := fun _ => False) hy) (fun _ _ h => h)).ks.shs i hi) (HPX.ks.are i hi) (q : Int))
    rw [← hho] at hHas hix
    have hPut := fun z (hz : Below x3.heap.size x3 z) => hide (putS_any ((HPX.far (far_below (E := fun _ => False) hz) (fun _ _ h => h)).shAt hi) hsm q b)
    have hgx := (unhide HX).lt
    have HPX2 := hide HPX
    have HSM := hide (And.intro hsort (And.intro hix hho))
    have HSK := hide hsk
    clear HPX hho hix hsort hsm hsk
    go_upto_region 5 with fail
    refine wp_region_frame (by kernel_rfl)
     [fun v _ => v = .int .i64 d, fun v _ => v = .bool true, fun v _ => v = .bool true, fun v _ => v = .int .i64 d, fun v _ => v = .bool true, fun v _ => v = .bool true, fun v _ => v = .bool true,
      fun v _ => v = .pointer (some ⟨p, 2 + i * 3, none⟩), fun v _ => v = .pointer (some ⟨p, 2 + i * 3, none⟩), fun v _ => v = .pointer (some ⟨p, 2 + i * 3 + 1, none⟩), fun v _ => v = .pointer (some ⟨w.heap.size, 3, none⟩), fun v _ => v = .int .i64 q, fun v _ => v = .bool ho, fun v _ => v = .bool (!ho), fun v _ => v = .bool (!ho), fun v _ => v = .bool (!ho)]
     [[(6, none)], [(32, some 0)], [(33, some 1)], [(6, none), (34, some 2)], [(35, some 3), (34, some 2)], [(34, some 2), (36, some 4)], [(37, some 5)], [(5, none), (38, some 6)], [(39, some 7), (38, some 6)], [(40, some 8), (38, some 6)], [(3, none), (38, some 6)], [(42, some 10), (38, some 6)], [(41, some 9), (43, some 11), (38, some 6)], [(44, some 12), (38, some 6)], [(38, some 6), (45, some 13)], [(46, some 14)]] [some 32, some 33, some 34, some 35, some 36, some 37, some 38, some 39, some 40, some 41, some 42, some 43, some 44, some 45, some 46, some 31] [false, false, false, false, false, false, false, false, false, false, false, false, false, false, false, false, false, false, false, false, false, false, false, false, false, false, false, false, false, false, false, true, true, true, true, true, true, true, true, true, true, true, true, true, true, true, true, false, false, false, false, false, false, false, false, false]
     (by kernel_rfl) (by kernel_rfl) (by kernel_rfl) (by kernel_rfl) ?_ ?_ ?_
    ·repeat' (first | exact stable_eq _ | exact trivial | apply And.intro)
    ·refine ⟨?_, ?_, ?_, ?_, ?_, ?_, ?_, ?_, ?_, ?_, ?_, ?_, ?_, ?_, ?_, ?_, trivial⟩
     all_goals
      intro a' z hbz hf
      have z3 := (hbz.cell (p := ⟨w.heap.size, 3, none⟩) hgx).trans y3
      have HZ := hide (unhide (hHas z hbz))
      clear hbz hHas hPut
      simp only [PlanFacts, List.getD_cons_zero, List.getD_cons_succ, Array.getD_eq_getD_getElem?] at hf
      try simp at hf
      try (have hg : a'.tmps[34]? = some (.bool true) := tmpB (by first | exact hf | exact hf.1 | exact hf.2 | exact hf.2.2))
      try (have hg2 : a'.tmps[38]? = some (.bool true) := tmpB (by first | exact hf | exact hf.1 | exact hf.2 | exact hf.2.2))
      try go_simp
      try simp only [hg, if_true]
      try simp only [hg2, if_true]
      try go_simp
      try exact Below.refl _ _
     all_goals first
      | exact ⟨rfl, Below.refl _ _⟩
      | exact ⟨_, rfl, Below.refl _ _, rfl⟩
      | (refine (unhide HZ).mono ?_; rintro e x' ⟨rfl, hb⟩; exact ⟨rfl, hb⟩)
      | (refine (unhide HZ).mono ?_; rintro e x' ⟨rfl, hb⟩; exact ⟨_, rfl, hb, rfl⟩)
      | skip
    ·intro f z hbz hwd
     simp only [AllWords] at hwd
     have h15 := hwd.2.2.2.2.2.2.2.2.2.2.2.2.2.2.2.1
     clear hwd
     simp only [mergeT, h15]
     generalize f 32 = x32
     generalize f 33 = x33
     generalize f 34 = x34
     generalize f 35 = x35
     generalize f 36 = x36
     generalize f 37 = x37
     generalize f 38 = x38
     generalize f 39 = x39
     generalize f 40 = x40
     generalize f 41 = x41
     generalize f 42 = x42
     generalize f 43 = x43
     generalize f 44 = x44
     generalize f 45 = x45
     generalize f 46 = x46
     have z3 := (hbz.cell (p := ⟨w.heap.size, 3, none⟩) hgx).trans y3
     have z4 := (hbz.cell (p := ⟨w.heap.size, 4, none⟩) hgx).trans y4
     have HBZ := hide hbz
     have hPz := unhide (hPut z hbz)
     cases ho
     ·have hhold : holdIt a i q b = { a with held := a.held ++ [(i, q, b)] } := by
       obtain ⟨e1, e2, _⟩ := unhide HD
       have hix := (unhide HSM).2.1
       rw [holdIt, if_pos ⟨by omega, by omega, by cases h : a.ix i q with | none => rfl | some v => rw [h] at hix; cases hix⟩]
      have hixn : a.ix i q = none := by
       have hix := (unhide HSM).2.1
       cases h : a.ix i q with | none => rfl | some v => rw [h] at hix; cases hix
      have HHO := hide (And.intro hhold hixn)
      have HPZ := fun y (hy : Below z.heap.size z y) => hide (unhide (hPut y (hbz.trans (hy.mono hbz.size))))
      simp only [recS] at HPZ
      have hgz : w.heap.size < z.heap.size := Nat.lt_of_lt_of_le hgx hbz.size
      clear hbz hPz hhold hixn hHas hPut y2 y3 y4
      go_upto_region 6 with fail
      refine wp_region_last (by kernel_rfl)
       [fun v _ => v = .pointer (some ⟨p, 2 + i * 3, none⟩), fun v _ => v = .pointer (some ⟨p, 2 + i * 3, none⟩), fun v _ => v = .pointer (some ⟨p, 2 + i * 3 + 1, none⟩), fun v _ => v = .pointer (some ⟨w.heap.size, 3, none⟩), fun v _ => v = .int .i64 q, fun v _ => v = .pointer (some ⟨w.heap.size, 4, none⟩), fun v _ => v = .string b, fun v _ => v = .agg #[.string b], fun _ _ => True]
       [[(5, none)], [(47, some 0)], [(48, some 1)], [(3, none)], [(50, some 3)], [(3, none)], [(52, some 5)], [(53, some 6)], [(49, some 2), (51, some 4), (54, some 7)]] [some 47, some 48, some 49, some 50, some 51, some 52, some 53, some 54, some 55] [false, false, false, false, false, false, false, false, false, false, false, false, false, false, false, false, false, false, false, false, false, false, false, false, false, false, false, false, false, false, false, false, false, false, false, false, false, false, false, false, false, false, false, false, false, false, false, true, true, true, true, true, true, true, true, true]
       8 _ rfl rfl (by kernel_rfl) (by kernel_rfl) (by kernel_rfl) (by kernel_rfl) (by kernel_rfl) (by kernel_rfl) ?_ ?_ ?_
      ·repeat' (first | exact stable_eq _ | exact stable_true | exact trivial | apply And.intro)
      ·refine ⟨?_, ?_, ?_, ?_, ?_, ?_, ?_, ?_, trivial⟩
       all_goals
        intro a' y hb hf
        have y3 := (hb.cell (p := ⟨w.heap.size, 3, none⟩) hgz).trans z3
        have y4 := (hb.cell (p := ⟨w.heap.size, 4, none⟩) hgz).trans z4
        clear hb
        simp only [PlanFacts, List.getD_cons_zero, List.getD_cons_succ, Array.getD_eq_getD_getElem?] at hf
        try simp at hf
        go_simp
        try exact ⟨_, rfl, Below.refl _ _, rfl⟩
        try exact Below.refl _ _
      ·intro f2 y hby hwd
       simp only [AllWords, List.take] at hwd
       have g2 := hwd.2.2.1
       have g4 := hwd.2.2.2.2.1
       have g7 := hwd.2.2.2.2.2.2.2.1
       clear hwd
       have HPY := hide (unhide (HPZ y hby))
       have HBY := hide hby
       clear hby
       simp only [mergeT, g2, g4, g7]
       generalize f2 47 = x47
       generalize f2 48 = x48
       generalize f2 50 = x50
       generalize f2 52 = x52
       generalize f2 53 = x53
       go_simp
       refine (unhide HPY).mono ?_
       rintro r u ⟨rfl, hst⟩
       have HST := hide hst
       clear hst
       go_wp2
       go_ret
       refine ⟨0, rfl, ?_⟩
       obtain ⟨hhold, hixn⟩ := unhide HHO
       rw [unhide HSK, hhold, unhide HCM]
       have hb1 : Below w.heap.size w y := (unhide HX).bel.trans (((unhide HBZ).trans ((unhide HBY).mono (unhide HBZ).size)).mono (unhide HX).bel.size)
       have hb2 : Below x3.heap.size x3 y := (unhide HBZ).trans ((unhide HBY).mono (unhide HBZ).size)
       have HPy := (unhide HPX2).far (far_below (E := fun _ => False) hb2) (fun _ _ h => h)
       refine skOut_same (SkIs2.behind ⟨_, st, pkStep_sh HPy hi (unhide HST) ?_, hs, onSh_hold O i q b hi hixn⟩ hb1)
       intro x hx
       rcases mem_putL hx with rfl | hx
       ·exact ⟨b, rfl⟩
       ·exact HPy.ks.are i hi x hx
     ·have hhold : holdIt a i q b = a := by
       have hix := (unhide HSM).2.1
       rw [holdIt, if_neg (fun h => by rw [h.2.2] at hix; cases hix)]
      have HHO := hide hhold
      clear hbz hPz hhold hHas hPut
      go_wp2
      go_ret
      exact ⟨0, rfl, by rw [unhide HSK, unhide HHO, unhide HCM]; exact skOut_same ((unhide hstay).below (unhide HBZ))⟩
   ·have hhold : holdIt a i q b = a := by
     obtain ⟨e1, e2, _⟩ := unhide HD
     rw [holdIt, if_neg (fun h => by omega)]
    rw [hhold] at hsk
    have HNO := hide hsk
    clear HPX hhold hsk
    go_upto_region 5 with fail
    go_quiet (fail)
    go_wp2
    go_ret
    exact ⟨0, rfl, by rw [unhide HNO, unhide HCM]; exact skOut_same ((unhide hstay).below (below_drewN (Below.refl _ _) _))⟩
  ·have hhold : holdIt a i q b = a := by
    obtain ⟨e1, e2, _⟩ := unhide HD
    rw [holdIt, if_neg (fun h => by omega)]
   rw [hhold] at hsk
   have HNO := hide hsk
   clear HPX hhold hsk
   go_upto_region 5 with fail
   go_quiet (fail)
   go_wp2
   go_ret
   exact ⟨0, rfl, by rw [unhide HNO, unhide HCM]; exact skOut_same ((unhide hstay).below (below_drewN (Below.refl _ _) _))⟩
end Go.Proofs.YtamafdcnbcoegaaGreat
namespace Go.Proofs.YtamafdcnbcoegaaGreat
open Go.RowKit
def hiW (a : Mod.Sk) (e : Nat) : Nat := if a.epoch < e then 1 else 0
set_option maxRecDepth 100000 in
set_option maxHeartbeats 4000000 in
theorem begin_gen {op ct n : Nat} {w : World} {p : Nat} {a : Mod.Sk} {sh : Nat → List (Nat × Value)} {st : Mod.Stv} {c : Sv} (H : PkAt w p a.epoch a.logs sh st c) (hs : Alv op ct n st a.epoch a.logs) (hct : ct + 1000 < 18446744073709551616) (O : OnSh a.held sh) (e : Nat) (he : a.epoch ≤ e) (hem : e ≤ 2147483647) :
  Calls Tryz.prog 160 #[ptrTo p, .int .i64 e] w fun r w' => ∃ v, r = .returned (.int .i64 v) ∧ SkOut op ct n w w' p a (helloIt a e) 0 [] (hiW a e) c v := by
 have c1 : w.cell? ⟨p, 1, none⟩ = some (.int .i64 a.epoch) := by rw [blk_cell H.ks.blk, H.ks.a1]
 by_cases heq : e = a.epoch
 ·subst heq
  have HF := hide (skIs2_refl H hs O)
  rw [helloIt_same, show hiW a a.epoch = 0 by unfold hiW; rw [if_neg (by omega)]]
  have hb : ((a.epoch : Int) == (a.epoch : Int)) = true := by simp
  clear H
  unfold ptrTo
  go_enter Tryz.func160, Tryz.ntmps160
  go_wp2
  go_ret
  exact ⟨0, rfl, skOut_same (unhide HF)⟩
 rw [show hiW a e = 1 by unfold hiW; rw [if_pos (by omega)]]
 obtain ⟨ee, hee⟩ : ∃ ee, ee = (st.putNumbers e 0 0).1 := ⟨_, rfl⟩
 have hEp : helloIt a e = { a with epoch := e, held := [] } := by unfold helloIt helloHeld; rw [if_pos (by omega)]
 rw [hEp]
 have hWN := fun y (hy : StAt y c.s c.dp st c.dlv c.duv) => hide (writeNumbers_any y c.s c.dp st c.dlv c.duv hy e 0 0 (by omega) (by omega) (by omega))
 obtain ⟨st2, hst⟩ : ∃ st2, st2 = (st.putNumbers e 0 0).2 := ⟨_, rfl⟩
 rw [← hee, ← hst] at hWN
 have hres : (n ≠ 1 ∧ ee = 0 ∧ Alv op (ct + 1) (n - 1) st2 e a.logs) ∨ (n = 1 ∧ ee = 4 ∧ Ded op st2 a.epoch a.logs) := by
  by_cases h1 : n = 1
  ·subst h1
   have := ded_num hs e 0 0
   rw [← hee, ← hst] at this
   exact .inr ⟨rfl, this⟩
  ·have := alv_num hs (by omega) h1 hem
   rw [← hee, ← hst] at this
   exact .inl ⟨h1, this⟩
 have hlen2 : st2.dk.bytes.length = 7808 := by
  rw [hst]
  unfold Mod.Stv.putNumbers Mod.Dk.put
  simp only
  split
  ·exact H.len
  ·split
   ·exact H.len
   ·simp only
    have := H.stt.hd
    rw [Mod.length_setSec (Mod.length_sealB _ _ (by rw [Mod.length_headIn]; omega)) (by rw [H.len]; omega)]
    exact H.len
 have hne : ((e : Int) == (a.epoch : Int)) = false := by simp; omega
 have hpl := lt_of_block H.ks.blk
 have HH := hide H
 have hNO := fun y => hide (numbersOf_any e y)
 have HRS := hide hres
 obtain ⟨ep, hep⟩ : ∃ ep, ep = a.epoch := ⟨_, rfl⟩
 have HEE := hide hep
 rw [← hep] at c1 hne HH
 clear H hst hee hres hEp hep
 unfold ptrTo at *
 go_enter Tryz.func160, Tryz.ntmps160
 go_upto_region 3 with fail
 refine wp_region_foot (by kernel_rfl)
  [fun v _ => v = .pointer (some ⟨p, 0, none⟩), fun v _ => v = .pointer (some ⟨p, 0, none⟩), fun v _ => v = .pointer (some ⟨p, 0, none⟩), fun v _ => v = .pointer (some ⟨c.s, 0, none⟩), fun v _ => v = .int .i64 e, fun v _ => v = .agg #[.int .i64 e, .int .i64 0, .int .i64 0],
   fun v y => v = .int .i64 ee ∧ ∃ uv', StAt y c.s c.dp st2 c.dlv uv' ∧ Loc w c.duv uv', fun v _ => v = .int .i64 ee]
  [[(0, none)], [(13, some 0)], [(14, some 1)], [(15, some 2)], [(1, none)], [(17, some 4)], [(16, some 3), (18, some 5)], [(19, some 6)]] [some 13, some 14, some 15, some 16, some 17, some 18, some 19, some 5] [false, false, false, false, false, true, false, false, false, false, false, false, false, true, true, true, true, true, true, true, false, false, false, false, false, false, false, false, false, false, false, false, false, false, false, false, false, false]
  [(6, StU c.s c.dp c.dlv c.duv)]
  (by kernel_rfl) (by kernel_rfl) (by kernel_rfl) (by kernel_rfl) (by kernel_rfl) ?_ ?_ ?_ ?_
 ·repeat' (first | exact stable_eq _ | exact (fun _ _ _ h hb => ⟨h.1, h.2.imp fun _ h => ⟨h.1.far (far_below (E := fun _ => False) hb) (fun _ _ h => h), h.2⟩⟩) | exact trivial | apply And.intro)
 ·repeat' (first | exact trivial | exact .inl rfl | exact .inr (.inr (stableF_eq _ _)) | apply And.intro)
 ·refine ⟨?_, ?_, ?_, ?_, ?_, ?_, ?_, ?_, trivial⟩
  all_goals
   intro a' z hb hf
   simp only [PlanFacts, List.getD_cons_zero, List.getD_cons_succ, Array.getD_eq_getD_getElem?] at hf
   try simp at hf
  iterate 3
   ·clear hb
    go_simp
    exact ⟨_, rfl, Far.refl _ _, rfl⟩
  ·have z0 : z.cell? ⟨p, 0, none⟩ = some (.pointer (some ⟨c.s, 0, none⟩)) := by
    have := hb.blk (unhide HH).ks.blk (footBut_no (by intro q hq; simp at hq; subst hq; exact fun h => (unhide HH).sep p (.inl rfl) h))
    rw [blk_cell this, (unhide HH).ks.a0]
    rfl
   clear hb
   go_simp
   exact ⟨_, rfl, Far.refl _ _, rfl⟩
  ·clear hb
   go_simp
   exact ⟨_, rfl, Far.refl _ _, rfl⟩
  ·have HC := hide (unhide (hNO z))
   clear hb
   go_simp
   refine (unhide HC).mono ?_
   rintro r z2 ⟨rfl, hb2⟩
   exact ⟨_, rfl, far_below hb2, rfl⟩
  ·have hbz : Below w.heap.size w z := hb.below (Nat.le_refl _) (by
    rintro j _ ⟨q, hq, g1, g2, g3⟩
    simp at hq
    subst hq
    exact g1 rfl)
   have HC := hide (unhide (hWN z ((unhide HH).stt.far (far_below (E := fun _ => False) hbz) (fun _ _ h => h))))
   have hzz := hbz.size
   clear hb hbz
   go_simp
   refine (unhide HC).mono ?_
   rintro r z2 ⟨rfl, uv', k1, k2, k3⟩
   exact ⟨_, rfl, footOf_of (.head _) k3, rfl, uv', k1, loc_less k2 hzz⟩
  ·clear hb
   obtain ⟨hf, _⟩ := hf
   go_simp
   exact ⟨_, rfl, Far.refl _ _, rfl⟩
 ·intro f z hF hwd
  obtain ⟨_, uv', k1, k2⟩ := hwd.2.2.2.2.2.2.1
  have h7 := hwd.2.2.2.2.2.2.2.1
  have hF : Far (StU c.s c.dp c.dlv c.duv) w z := hF.mono (fun k _ h => by
   obtain ⟨q, hq, h⟩ := h
   simp at hq
   subst hq
   exact h)
  have hPK : PkAt z p ep a.logs sh st2 { c with duv := uv' } := ⟨(unhide HH).ks.far hF (fun k hk h => (unhide HH).sep k hk h), k1, (unhide HH).rl.far hF (fun g hg h => ((unhide HH).sepr g hg).2 h), hlen2⟩
  have hST : PkStep w z p ep a.logs sh st2 c := by
   refine ⟨_, hPK, hF.mono (fun k _ h => .inr (.inl h)), ?_, rfl, rfl⟩
   have hwz := hF.size
   rintro k (hk | (rfl | rfl | hk | hk) | hk)
   ·exact .inl (.inl hk)
   ·exact .inl (.inr (.inl (.inl rfl)))
   ·exact .inl (.inr (.inl (.inr (.inl rfl))))
   ·exact .inl (.inr (.inl (.inr (.inr (.inl hk)))))
   ·rcases k2 with h | h | ⟨g, h, hg⟩
    ·rw [h] at hk; cases hk
    ·exact .inl (.inr (.inl (.inr (.inr (.inr (by rw [← h]; exact hk))))))
    ·rw [h] at hk; cases hk; exact .inr hg
   ·exact .inl (.inr (.inr hk))
  have HST := hide hST
  have yf : z.frozen? ⟨p, 1, none⟩ = false := blk_free (i := 1) hPK.ks.blk
  have yc : z.cell? ⟨p, 1, none⟩ = some (.int .i64 ep) := by rw [blk_cell hPK.ks.blk]; exact hPK.ks.a1
  clear hwd hF k1 k2 hPK hST
  simp only [mergeT, h7]
  generalize f 13 = x13
  generalize f 14 = x14
  generalize f 15 = x15
  generalize f 16 = x16
  generalize f 17 = x17
  generalize f 18 = x18
  generalize f 19 = x19
  rcases unhide HRS with ⟨hn1, rfl, hal⟩ | ⟨hn1, rfl, hde⟩
  rotate_left
  ·have HDE := hide (And.intro hn1 hde)
   clear hn1 hde HRS yf yc
   go_wp2
   go_ret
   refine ⟨4, rfl, .inr ⟨rfl, by rw [(unhide HDE).1]; omega, by rw [(unhide HDE).1]; omega, ?_⟩⟩
   rw [List.take_nil, grown_zero, ← unhide HEE]
   exact ⟨sh, st2, unhide HST, by rw [unhide HEE]; exact (unhide HDE).2⟩
  have HAL := hide (And.intro hn1 hal)
  have HEP := hide ((unhide HST).trans (fun c' h' => pkStep_ep h' e hem))
  clear hn1 hal HRS HST
  go_upto_region 7 with fail
  refine wp_world (fun y => PkStep w y p e a.logs sh st2 c) (unhide HEP) ?_
  clear HEP yf yc
  intro y hY
  have HY := hide hY
  clear hY
  go_wp2
  go_loopw [6, 27] (fun _ i wr => ∃ j : Nat, j ≤ 3 ∧ i = .int .i64 j ∧ PkStep w wr p e a.logs (fun t => if t < j then [] else sh t) st2 c) (fun _ i _ => 3 - (intOf i).toNat)
  case atStart => exact ⟨0, by omega, rfl, by simpa using unhide HY⟩
  case round =>
   obtain ⟨j, hj, rfl, hk⟩ := hrel
   clear HY
   by_cases hlt : j < 3
   ·obtain ⟨c1', K1, F1, N1, e1, e2⟩ := id hk
    have HCL := hide (clearS_any (K1.shAt hlt))
    have hj0 : (0 : Int) ≤ (j : Int) := by omega
    have hj3 : (j : Int) < 3 := by omega
    have HK := hide hk
    have HK1 := hide K1
    have HFN := hide (And.intro F1 (And.intro N1 (And.intro e1 e2)))
    clear hk K1 F1 N1 e1 e2
    go_wp2_with (go_at_call 203; refine (unhide HCL).mono ?_; rintro r y ⟨rfl, hst⟩)
    have hq := pkStep_sh (unhide HK1) hlt hst (by intro x hx; cases hx)
    obtain ⟨F1, N1, e1, e2⟩ := unhide HFN
    have h2 : PkStep w y p e a.logs (fun t => if t < j + 1 then [] else sh t) st2 c := by
     obtain ⟨c2, q1, q2, q3, q4, q5⟩ := hq
     have hsz := F1.size
     have hfun : (fun t => if t = j then ([] : List (Nat × Value)) else (fun t => if t < j then [] else sh t) t) = fun t => if t < j + 1 then [] else sh t := by
      funext t
      by_cases h1 : t = j
      ·simp [h1]
      ·by_cases h2 : t < j
       ·simp [h1, h2, show t < j + 1 by omega]
       ·simp [h1, h2, show ¬ t < j + 1 by omega]
     rw [hfun] at q1
     refine ⟨c2, q1, F1.trans q2 (fun k hk hu => (N1 k hu).elim id (fun h => by omega)), fun k hk => ?_, q4.trans e1, q5.trans e2⟩
     rcases q3 k hk with h | h
     ·exact N1 k h
     ·exact .inr (Nat.le_trans hsz h)
    exact ⟨⟨j + 1, by omega, by go_num, h2⟩, by simp [intOf]; omega⟩
   ·obtain rfl : j = 3 := by omega
    go_wp2
    go_ret
    exact ⟨0, rfl, .inl ⟨rfl, by have := (unhide HAL).1; omega, _, st2, hk, (unhide HAL).2, onSh_cleared⟩⟩
end Go.Proofs.YtamafdcnbcoegaaGreat
