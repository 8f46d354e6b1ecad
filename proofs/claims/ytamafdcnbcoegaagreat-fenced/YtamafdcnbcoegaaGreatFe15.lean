/-
  Part 15 of a proof: L31, L27, L28, L29, L30, L32, L33.
-/
import Derived.Test.YtamafdcnbcoegaaGreatFe14
namespace Go.Proofs.YtamafdcnbcoegaaGreat
open Go.RowKit
structure AlvA (op ct n : Nat) (st : Mod.Stv) (a : Mod.Ag) (free : List Nat) (pl : Nat → List Nat) : Prop where
 dead : st.dk.dead = false
 arm : st.dk.armed = n
 op : st.opening = op
 ct : st.count ≤ ct
 dk : Mod.AgDisk st.dk.bytes st.opening st.count st.head a free pl
theorem OnAg.places {a : Mod.Ag} {op : Nat} {g : Nat → Nat} {free : List Nat} {sh : Nat → List (Nat × Value)} {pl : Nat → List Nat} (O : OnAg a op g free sh pl) : Mod.Places a free pl := ⟨O.pn, O.nd, O.lt, O.sum⟩
theorem alvA_next {op ct n : Nat} {st : Mod.Stv} {a : Mod.Ag} {free : List Nat} {pl : Nat → List Nat} (h : AlvA op ct n st a free pl) (hct : ct + 1 < 18446744073709551616) : st.next = st.count + 1 := by
 have := h.ct
 unfold Mod.Stv.next
 omega
theorem alvA_rec {op ct n : Nat} {st : Mod.Stv} {a : Mod.Ag} {fr : List Nat} {q : Nat} {pl : Nat → List Nat} (h : AlvA op ct n st a (fr ++ [q]) pl) (hct : ct + 1000 < 18446744073709551616) (hn : n ≠ 1) (P : Mod.Places a (fr ++ [q]) pl) {i : Nat} (hi : i < 3) {s : ByteArray} (hb : s.size ≤ 20) (hq : (a.fl i).base + (a.fl i).kept.length < 2147483647) :
  (st.putRecord q i ((a.fl i).base + (a.fl i).kept.length + 1) s.data.toList).1 = 0 ∧ AlvA op (ct + 1) (n - 1) (st.putRecord q i ((a.fl i).base + (a.fl i).kept.length + 1) s.data.toList).2 (a.submit i s) fr (fun t => if t = i then pl i ++ [q] else pl t) := by
 have hnx := alvA_next h (by omega)
 have hd := h.dk.submit P hi hb (by have := h.ct; omega) (by omega)
 have h1 := h.dead
 have h2 := h.arm
 have h3 := h.ct
 unfold Mod.Stv.putRecord Mod.Dk.put
 rw [if_neg (by rw [h1]; simp), if_neg (by rw [h2]; exact hn), hnx]
 exact ⟨rfl, rfl, by show st.dk.armed - 1 = n - 1; rw [h2], h.op, by show st.count + 1 ≤ ct + 1; omega, hd⟩
theorem AlvA.sound {op ct : Nat} {st : Mod.Stv} {a : Mod.Ag} {free : List Nat} {pl : Nat → List Nat} (h : AlvA op ct 0 st a free pl) : Sound st := ⟨h.dead, h.arm⟩
def AgIs2 (op ct n : Nat) (w x : World) (p : Nat) (a : Mod.Ag) (c : Av) : Prop :=
 ∃ g free sh pl st, PaStep w x p g a.ticks a.welcome a.fenced free sh st c ∧ AlvA op ct n st a free pl ∧ OnAg a st.opening g free sh pl
section
variable {w x y : World} {p : Nat} {g : Nat → Nat} {tk : Nat} {wel fen : Bool} {free : List Nat} {sh : Nat → List (Nat × Value)} {st st2 : Mod.Stv} {c : Av} {a : Mod.Ag} {op ct n : Nat} {pl : Nat → List Nat}
set_option maxRecDepth 100000 in
set_option maxHeartbeats 2000000 in
theorem agSubmit_no2 (H : PaAt w p g a.ticks a.welcome a.fenced free sh st c) (hs : st.dk.dead = false) (O : OnAg a st.opening g free sh pl) (i : Int) (s : ByteArray) (hr : a.refuses i s.size ≠ 0) :
  Calls Tryz.prog 52 #[ptrTo p, .int .i64 i, .string s] w fun r z => r = .returned (.int .i64 (a.refuses i s.size)) ∧ z = w := by
 have c0 : w.cell? ⟨p, 0, none⟩ = some (ptrTo c.s) := by rw [blk_cell H.ks.blk, H.ks.a0]
 have hID := storeIsDead_any H.stt
 rw [hs] at hID
 have HID := hide hID
 obtain ⟨ad, cap, hfv, _⟩ := H.ks.fr.shape
 have c22 : w.cell? ⟨p, 22, none⟩ = some (.slice ad free.length cap) := by rw [blk_cell H.ks.blk, H.ks.af, hfv]
 have hsum := O.sum
 obtain ⟨m, hm⟩ : ∃ m, m = free.length := ⟨_, rfl⟩
 rw [← hm] at c22 hsum
 have HIS := hide (isStream_any i w)
 obtain ⟨e, he⟩ : ∃ e, e = a.refuses i s.size := ⟨_, rfl⟩
 rw [← he]
 have hcase : (Wire.isStr i = false ∧ e = 5) ∨ (Wire.isStr i = true ∧ 20 < s.size ∧ e = 6) ∨ (Wire.isStr i = true ∧ ¬ 20 < s.size ∧ m = 0 ∧ e = 7) := by
  unfold Mod.Ag.refuses at he hr
  by_cases h1 : i < 0 ∨ 3 ≤ i
  ·rw [if_pos h1] at he
   refine .inl ⟨?_, he⟩
   cases hc : Wire.isStr i
   ·rfl
   ·simp [Wire.isStr] at hc; omega
  ·rw [if_neg h1] at he hr
   have hst : Wire.isStr i = true := by simp [Wire.isStr]; omega
   by_cases h2 : 20 < s.size
   ·rw [if_pos h2] at he
    exact .inr (.inl ⟨hst, h2, he⟩)
   ·rw [if_neg h2] at he hr
    by_cases h3 : 24 ≤ a.room
    ·rw [if_pos h3] at he
     exact .inr (.inr ⟨hst, h2, by omega, he⟩)
    ·rw [if_neg h3] at hr
     exact absurd rfl hr
 clear H hID hfv hm hr he O hsum
 unfold ptrTo at *
 rcases hcase with ⟨h1, rfl⟩ | ⟨h1, h2, rfl⟩ | ⟨h1, h2, rfl, rfl⟩
 ·rw [h1] at HIS
  go_enter Tryz.func52, Tryz.ntmps52
  go_wp2_with (first | (go_at_call 86; refine (unhide HID).mono ?_; rintro r y ⟨rfl, hyw⟩; obtain rfl : w = y := hyw.symm) | (go_at_call 87; refine (unhide HIS).mono ?_; rintro r y ⟨rfl, hyw⟩; obtain rfl : w = y := hyw.symm))
  go_ret
  exact ⟨rfl, rfl⟩
 ·rw [h1] at HIS
  have h2' : (20 : Int) < (s.size : Int) := by omega
  go_enter Tryz.func52, Tryz.ntmps52
  go_wp2_with (first | (go_at_call 86; refine (unhide HID).mono ?_; rintro r y ⟨rfl, hyw⟩; obtain rfl : w = y := hyw.symm) | (go_at_call 87; refine (unhide HIS).mono ?_; rintro r y ⟨rfl, hyw⟩; obtain rfl : w = y := hyw.symm))
  go_ret
  exact ⟨rfl, rfl⟩
 ·rw [h1] at HIS
  have h2' : ¬ (20 : Int) < (s.size : Int) := by omega
  go_enter Tryz.func52, Tryz.ntmps52
  go_wp2_with (first | (go_at_call 86; refine (unhide HID).mono ?_; rintro r y ⟨rfl, hyw⟩; obtain rfl : w = y := hyw.symm) | (go_at_call 87; refine (unhide HIS).mono ?_; rintro r y ⟨rfl, hyw⟩; obtain rfl : w = y := hyw.symm))
  go_ret
  exact ⟨rfl, rfl⟩
set_option maxRecDepth 100000 in
set_option maxHeartbeats 4000000 in
theorem agSubmit_ok2 (H : PaAt w p g a.ticks a.welcome a.fenced free sh st c) (hs : AlvA op ct n st a free pl) (hct : ct + 1000 < 18446744073709551616) (hnn : n ≠ 1) (O : OnAg a st.opening g free sh pl) {i : Nat} (hi : i < 3) (s : ByteArray) (hsz : s.size ≤ 20) (hroom : a.room < 24) (hsum : (a.fl i).base + (a.fl i).kept.length < 2147483647) :
  Calls Tryz.prog 52 #[ptrTo p, .int .i64 i, .string s] w fun r z => r = .returned (.int .i64 0) ∧ AgIs2 op (ct + 1) (n - 1) w z p (a.submit i s) c := by
 have hne : free ≠ [] := fun h => by have := O.sum; rw [h] at this; simp at this; omega
 obtain ⟨fr, q, rfl⟩ : ∃ fr q, free = fr ++ [q] := by
  rcases List.eq_nil_or_concat free with h | ⟨l, x, h⟩
  ·exact absurd h hne
  ·exact ⟨l, x, by rw [h, List.concat_eq_append]⟩
 have hq : q < 24 := O.lt q (by simp)
 have hALV := alvA_rec hs hct hnn O.places hi hsz hsum
 have hdd := hs.dead
 clear hct hnn hs
 have c0 : w.cell? ⟨p, 0, none⟩ = some (ptrTo c.s) := by rw [blk_cell H.ks.blk, H.ks.a0]
 have hID := storeIsDead_any H.stt
 rw [hdd] at hID
 have HID := hide hID
 have hst : Wire.isStr (i : Int) = true := by simp [Wire.isStr]; omega
 have hIS := isStream_any (i : Int) w
 rw [hst] at hIS
 have HIS := hide hIS
 obtain ⟨ad, cap, hfv, _, _, hfc⟩ := H.ks.fr.shape
 have hlen : (fr ++ [q]).length = fr.length + 1 := by simp
 rw [hlen] at hfv hfc
 obtain ⟨gf, of, rfl, hfc2⟩ := hfc (by omega)
 have c22 : w.cell? ⟨p, 22, none⟩ = some (.slice (some ⟨gf, of, none⟩) (fr.length + 1) cap) := by rw [blk_cell H.ks.blk, H.ks.af, hfv]
 have cq : w.cell? ⟨gf, of + fr.length, none⟩ = some (.int .i64 q) := by
  rw [hfc2 fr.length (by omega)]
  simp [numCells]
 have hm24 : fr.length + 1 ≤ 24 := by have := O.sum; simp at this; omega
 obtain ⟨m, hm⟩ : ∃ m, m = fr.length := ⟨_, rfl⟩
 rw [← hm] at c22 cq hm24 hfv
 have hwl : IntKind.i64.wrap (((m + 1 : Nat) : Int) - 1) = (m : Int) := by rw [IntKind.wrap_i64]; omega
 have hwl2 : IntKind.i64.wrap ((m : Int) + 1 - 1) = (m : Int) := by rw [IntKind.wrap_i64]; omega
 have hwm : IntKind.i64.wrap (m : Int) = (m : Int) := by rw [IntKind.wrap_i64]; omega
 have hm1 : (0 : Int) ≤ (m : Int) := by omega
 have hm2 : (m : Int) < ((m + 1 : Nat) : Int) := by omega
 have hm3 : (m : Int) < (m : Int) + 1 := by omega
 have hm0 : (((m + 1 : Nat) : Int) == 0) = false := by simp; omega
 have hm0' : ((m : Int) + 1 == 0) = false := by simp; omega
 obtain ⟨bl, hbl⟩ : ∃ bl, bl = (a.fl i).base + (a.fl i).kept.length := ⟨_, rfl⟩
 have hLst := fun n => agLast_any (H.below (below_drewN (Below.refl _ _) n)) O hi (O.bs i hi)
 rw [← hbl] at hLst hsum
 have HLst := fun n => hide (hLst n)
 have hws : IntKind.i64.wrap ((bl : Int) + 1) = ((bl + 1 : Nat) : Int) := by rw [IntKind.wrap_i64]; omega
 obtain ⟨sq, hsq⟩ : ∃ sq, sq = bl + 1 := ⟨_, rfl⟩
 rw [← hsq] at hws
 obtain ⟨h0, hs2⟩ := hALV
 rw [← hbl, ← hsq] at h0 hs2
 have hslen : s.data.toList.length = s.size := by simp
 have hpr := putRecord_len (st := st) q i sq s.data.toList (by omega) (by rw [H.len]; omega)
 rw [H.len] at hpr
 have hWR := fun y (hy : Below w.heap.size w y) => writeRecord_any y c.s c.dp st c.dlv c.duv (H.below hy).stt q i sq s (by rw [H.len]; omega) (by omega) (by omega) hsz
 have hop : (st.putRecord q i sq s.data.toList).2.opening = st.opening := rfl
 obtain ⟨st2, hst2⟩ : ∃ st2, st2 = (st.putRecord q i sq s.data.toList).2 := ⟨_, rfl⟩
 rw [← hst2] at hs2 hpr hop
 rw [h0, ← hst2] at hWR
 have HWR := fun y hy => hide (hWR y hy)
 have h20 : ¬ (20 : Int) < (s.size : Int) := by omega
 have hi0 : (0 : Int) ≤ (i : Int) := by omega
 have hi3 : (i : Int) < 3 := by omega
 have HFACT := hide (And.intro hs2 (And.intro hpr (And.intro hop (And.intro hm (And.intro hbl (And.intro hsq hfv))))))
 have HO := hide O
 have HH := hide H
 have hpl := lt_of_block H.ks.blk
 have hSC := fun y => hide (strClone_any s y (by omega))
 clear H O hID hIS hst hWR hs2 hpr hop hm hbl hsq hfv hLst h0 hst2 hfc hfc2 hslen hlen hne hroom hsum hsz hdd
 unfold ptrTo at *
 go_enter Tryz.func52, Tryz.ntmps52
 go_upto_region 9 with (first | (go_at_call 86; refine (unhide HID).mono ?_; rintro r y ⟨rfl, hyw⟩; obtain rfl : w = y := hyw.symm) | (go_at_call 87; refine (unhide HIS).mono ?_; rintro r y ⟨rfl, hyw⟩; obtain rfl : w = y := hyw.symm))
 go_quiet (first | (go_at_call 88; exact Calls.quiet_of (unhide (HLst _))))
 go_upto_region 10 with fail
 refine wp_world (fun x => Below w.heap.size w x) (below_drewN (Below.refl _ _) _) ?_
 clear cq HID HIS HLst hws
 intro x hbx
 have d0 := (hbx.cell (p := ⟨p, 0, none⟩) hpl).trans c0
 have HX := hide hbx
 have hWX := hide (unhide (HWR x hbx))
 clear hbx c0 c22 HWR
 go_upto_region 13 with (go_at_call 89; refine (unhide hWX).mono ?_; rintro r y ⟨rfl, uv', k1, k2, k3⟩)
 obtain ⟨hs2, hpr, hop, hm, hbl, hsq, hfv⟩ := unhide HFACT
 have hST := paStep_store ((unhide HH).below (unhide HX)) k1 k2 k3 hpr
 have HST := hide (hST.behind (unhide HX))
 refine wp_world (fun z => PaStep w z p g a.ticks a.welcome a.fenced (fr ++ [q]) sh st2 c) (unhide HST) ?_
 clear k1 k2 k3 hST HST d0 hWX hs2 hpr hop hm hbl hsq hfv
 rintro z ⟨c1, K1, F1, N1, t1, t2⟩
 obtain ⟨ad1, cap1, hfv1, hcap1, _, hfc1⟩ := K1.ks.fr.shape
 obtain ⟨gf1, of1, rfl, _⟩ := hfc1 (by simp)
 have hm := (unhide HFACT).2.2.2.1
 have hlen1 : (fr ++ [q]).length = m + 1 := by simp [hm]
 rw [hlen1] at hfv1 hcap1
 have hmc : m ≤ cap1 := by omega
 have d22 : z.cell? ⟨p, 22, none⟩ = some (.slice (some ⟨gf1, of1, none⟩) (m + 1) cap1) := by rw [blk_cell K1.ks.blk, K1.ks.af, hfv1]
 have df : z.frozen? ⟨p, 22, none⟩ = false := blk_free (i := 22) K1.ks.blk
 have hpz := lt_of_block K1.ks.blk
 have hrow : RowO z 3 1 (.slice (some ⟨gf1, of1, none⟩) m cap1) fr.length (numCells fr) := by
  have h := K1.ks.fr
  rw [hlen1, hfv1] at h
  have h2 := h.init
  rw [← hm]
  have : (numCells (fr ++ [q])).take m = numCells fr := by rw [hm]; simp [numCells]
  rw [this] at h2
  exact h2
 have HSTEP := fun z2 (hz : Below z.heap.size z z2) => hide (paAfter (F1.trans (far_below (E := fun _ => False) hz) (fun _ _ h => h.elim)) N1 t1 t2 (paStep_free (free2 := fr) (x := z2) (v := .slice (some ⟨gf1, of1, none⟩) m cap1) (K1.below hz) (Far.refl _ _) (by rw [hm]; rw [hm] at hrow; exact hrow.far (far_below (E := fun _ => False) hz) (fun _ _ h => h)) (.inr (.inl (by rw [hfv1]; rfl)))))
 clear K1 F1 N1 t1 t2 hfc1 hrow hfv1 hlen1 hm
 refine wp_region_last (by kernel_rfl)
  [fun v _ => v = .pointer (some ⟨p, 0, none⟩), fun v _ => v = .pointer (some ⟨p, 0, none⟩), fun v _ => v = .pointer (some ⟨p, 0, none⟩), fun v _ => v = .pointer (some ⟨p, 22, none⟩), fun v _ => v = .slice (some ⟨gf1, of1, none⟩) (m + 1) cap1, fun v _ => v = .pointer (some ⟨p, 0, none⟩), fun v _ => v = .pointer (some ⟨p, 0, none⟩), fun v _ => v = .pointer (some ⟨p, 22, none⟩), fun v _ => v = .slice (some ⟨gf1, of1, none⟩) (m + 1) cap1,
   fun v _ => v = .int .i64 ((m + 1 : Nat) : Int), fun v _ => v = .int .i64 m, fun v _ => v = .slice (some ⟨gf1, of1, none⟩) m cap1, fun v _ => v = .pointer (some ⟨p, 0, none⟩), fun v _ => v = .pointer (some ⟨p, 22, none⟩), fun _ _ => True]
  [[(0, none)], [(0, none)], [(61, some 1)], [(62, some 2)], [(63, some 3)], [(0, none)], [(65, some 5)], [(66, some 6)], [(67, some 7)], [(68, some 8)], [(69, some 9)], [(64, some 4), (70, some 10)], [(60, some 0)], [(72, some 12)], [(73, some 13), (71, some 11)]] [some 60, some 61, some 62, some 63, some 64, some 65, some 66, some 67, some 68, some 69, some 70, some 71, some 72, some 73, none] [false, false, false, false, false, false, false, false, false, false, false, false, false, false, false, false, false, false, false, false, false, false, false, false, false, false, false, false, false, false, false, false, false, false, false, false, false, false, false, false, false, false, false, false, false, false, false, false, false, false, false, false, false, false, false, false, false, false, false, false, true, true, true, true, true, true, true, true, true, true, true, true, true, true, false, false, false, false, false, false, false, false, false, false, false, false]
  14 _ rfl rfl (by kernel_rfl) (by kernel_rfl) (by kernel_rfl) (by kernel_rfl) (by kernel_rfl) (by kernel_rfl) ?_ ?_ ?_
 ·repeat' (first | exact stable_eq _ | exact stable_true | exact trivial | apply And.intro)
 ·refine ⟨?_, ?_, ?_, ?_, ?_, ?_, ?_, ?_, ?_, ?_, ?_, ?_, ?_, ?_, trivial⟩
  all_goals
   intro a' y hb hf
   have e22 := (hb.cell (p := ⟨p, 22, none⟩) hpz).trans d22
   clear hb HSTEP
   simp only [PlanFacts, List.getD_cons_zero, List.getD_cons_succ, Array.getD_eq_getD_getElem?] at hf
   try simp at hf
   go_simp
   try exact ⟨_, rfl, Below.refl _ _, rfl⟩
   try exact Below.refl _ _
   try exact ⟨Below.refl _ _, by simp⟩
 ·intro f y hby hwd
  simp only [AllWords, List.take] at hwd
  have g11 := hwd.2.2.2.2.2.2.2.2.2.2.2.1
  have g13 := hwd.2.2.2.2.2.2.2.2.2.2.2.2.2.1
  clear hwd
  have HSY := hide (unhide (HSTEP y hby))
  have e22 := (hby.cell (p := ⟨p, 22, none⟩) hpz).trans d22
  have ef : y.frozen? ⟨p, 22, none⟩ = false := (hby.frozen (p := ⟨p, 22, none⟩) hpz).trans df
  clear hby HSTEP d22 df
  simp only [mergeT, g11, g13]
  generalize f 60 = x60
  generalize f 61 = x61
  generalize f 62 = x62
  generalize f 63 = x63
  generalize f 64 = x64
  generalize f 65 = x65
  generalize f 66 = x66
  generalize f 67 = x67
  generalize f 68 = x68
  generalize f 69 = x69
  generalize f 70 = x70
  generalize f 72 = x72
  go_simp
  go_upto_region 14 with fail
  refine wp_world (fun z => PaStep w z p g a.ticks a.welcome a.fenced fr sh st2 c) (unhide HSY) ?_
  clear HSY e22 ef
  rintro z3 ⟨c3, K3, F3, N3, t1, t2⟩
  have hkl := (unhide HO).small hi
  have hshl : (sh (i * 3)).length < 1000 := by rw [(unhide HO).kp i hi, keptL_length _ _ _ ((unhide HO).pn i hi)]; omega
  have hPut := fun y (hy : Below z3.heap.size z3 y) => putA_any ((K3.below hy).shAt (i := i * 3) (by omega)) hshl sq s q
  simp only [recA, show 4 + i * 3 * 2 = 4 + i * 6 by omega] at hPut
  have HPUT := fun y hy => hide (hPut y hy)
  have HK3 := hide (And.intro K3 (And.intro F3 (And.intro N3 (And.intro t1 t2))))
  clear K3 F3 N3 t1 t2 hPut hkl hshl
  refine wp_region_last (by kernel_rfl)
   [fun v _ => v = .pointer (some ⟨p, 0, none⟩), fun v _ => v = .int .i64 i, fun v _ => v = .pointer (some ⟨p, 0, none⟩), fun v _ => v = .pointer (some ⟨p, 4, none⟩), fun v _ => v = .pointer (some ⟨p, 4 + i * 6, none⟩), fun v _ => v = .pointer (some ⟨p, 4 + i * 6, none⟩), fun v _ => v = .int .i64 sq, fun v _ => v = .string s, fun v _ => v = .string s, fun v _ => v = .int .i64 q, fun v _ => v = .agg #[.string s, .int .i64 q], fun _ _ => True]
   [[(0, none)], [(1, none)], [(74, some 0)], [(76, some 2)], [(77, some 3), (75, some 1)], [(78, some 4)], [(7, none)], [(2, none)], [(81, some 7)], [(8, none)], [(82, some 8), (83, some 9)], [(79, some 5), (80, some 6), (84, some 10)]] [some 74, some 75, some 76, some 77, some 78, some 79, some 80, some 81, some 82, some 83, some 84, some 85] [false, false, false, false, false, false, false, false, false, false, false, false, false, false, false, false, false, false, false, false, false, false, false, false, false, false, false, false, false, false, false, false, false, false, false, false, false, false, false, false, false, false, false, false, false, false, false, false, false, false, false, false, false, false, false, false, false, false, false, false, false, false, false, false, false, false, false, false, false, false, false, false, false, false, true, true, true, true, true, true, true, true, true, true, true, true]
   11 _ rfl rfl (by kernel_rfl) (by kernel_rfl) (by kernel_rfl) (by kernel_rfl) (by kernel_rfl) (by kernel_rfl) ?_ ?_ ?_
  ·repeat' (first | exact stable_eq _ | exact stable_true | exact trivial | apply And.intro)
  ·refine ⟨?_, ?_, ?_, ?_, ?_, ?_, ?_, ?_, ?_, ?_, ?_, trivial⟩
   all_goals
    intro a' y hb hf
    clear hb HPUT
    simp only [PlanFacts, List.getD_cons_zero, List.getD_cons_succ, Array.getD_eq_getD_getElem?] at hf
    try simp at hf
    go_simp
    try exact ⟨_, rfl, Below.refl _ _, rfl⟩
    try exact Below.refl _ _
    try exact ⟨Below.refl _ _, by simp⟩
   all_goals first
    | (refine (unhide (hSC _)).mono ?_; rintro r z ⟨rfl, hb⟩; exact ⟨rfl, hb⟩)
    | (refine (unhide (hSC _)).mono ?_; rintro r z ⟨rfl, hb⟩; exact ⟨_, rfl, hb, rfl⟩)
    | skip
  ·intro f2 y hby hwd
   simp only [AllWords, List.take] at hwd
   have g5 := hwd.2.2.2.2.2.1
   have g6 := hwd.2.2.2.2.2.2.1
   have g10 := hwd.2.2.2.2.2.2.2.2.2.2.1
   clear hwd
   have HP := hide (unhide (HPUT y hby))
   have HBY := hide hby
   clear hby HPUT
   simp only [mergeT, g5, g6, g10]
   generalize f2 74 = y74
   generalize f2 75 = y75
   generalize f2 76 = y76
   generalize f2 77 = y77
   generalize f2 78 = y78
   generalize f2 81 = y81
   generalize f2 82 = y82
   generalize f2 83 = y83
   go_simp
   refine (unhide HP).mono ?_
   rintro r u ⟨rfl, hst⟩
   have HST := hide hst
   clear hst
   go_wp2
   go_ret
   refine ⟨rfl, ?_⟩
   obtain ⟨hs2, hpr, hop, hm, hbl, hsq, hfv⟩ := unhide HFACT
   obtain ⟨K3, F3, N3, t1, t2⟩ := unhide HK3
   have hst := unhide HST
   have hst3 : ShStep y u p (4 + i * 3 * 2) 151 c3.arr (c3.nv (i * 3)) (c3.mv (i * 3)) (putL (sh (i * 3)) sq (recA s q)) := by rw [show 4 + i * 3 * 2 = 4 + i * 6 by omega]; exact hst
   have h1 := paAfter F3 N3 t1 t2 ((paStep_sh (K3.below (unhide HBY)) (by omega) hst3).behind (unhide HBY))
   have hON := onAg_submit (unhide HO) hi s
   rw [← hbl, ← hsq, ← hop] at hON
   exact ⟨g, fr, _, _, st2, h1, hs2, hON⟩
end
end Go.Proofs.YtamafdcnbcoegaaGreat
namespace Go.Proofs.YtamafdcnbcoegaaGreat
open Go.RowKit
section
variable {w x y : World} {p : Nat} {g g2 : Nat → Nat} {tk tk2 : Nat} {wel wel2 fen fen2 : Bool} {free free2 : List Nat} {sh sh2 : Nat → List (Nat × Value)} {arr : Array Value} {s : Nat} {nv mv : Nat → Value} {fv rv : Value}
theorem ka_sh (H : KaAt w p g tk wel fen free sh arr s nv mv fv rv) {i : Nat} (hi : i < 9) {l' : List (Nat × Value)} (h : ShStep w x p (4 + i * 2) 151 arr (nv i) (mv i) l') :
  ∃ arr' nv' mv', KaAt x p g tk wel fen free (fun t => if t = i then l' else sh t) arr' s nv' mv' fv rv ∧ (∀ k, KaU p nv' mv' fv k → KaU p nv mv fv k ∨ w.heap.size ≤ k) ∧ Far (fun k => k = p ∨ ShU (nv i) (mv i) k) w x := by
 obtain ⟨⟨nv', mv', S, hn, hm⟩, hF⟩ := h
 have hsz := H.sz
 have hget : ∀ j, j ≠ 4 + i * 2 → j ≠ 4 + i * 2 + 1 → ((arr.setIfInBounds (4 + i * 2) nv').setIfInBounds (4 + i * 2 + 1) mv')[j]? = arr[j]? := fun j h1 h2 => by
  rw [Array.getElem?_setIfInBounds_ne (by omega), Array.getElem?_setIfInBounds_ne (by omega)]
 have hnew : ∀ k, ShU nv' mv' k → ShU (nv i) (mv i) k ∨ w.heap.size ≤ k := by
  rintro k (hk | hk)
  ·rcases hn with h | h | ⟨g, h, hg⟩
   ·rw [h] at hk; cases hk
   ·exact .inl (.inl (by rw [← h]; exact hk))
   ·rw [h] at hk; cases hk; exact .inr hg
  ·rcases hm with h | ⟨g, h, hg⟩
   ·exact .inl (.inr (by rw [← h]; exact hk))
   ·rw [h] at hk; cases hk; exact .inr hg
 have hfvp : fv.ownBlock ≠ some p := H.fr.ne H.blk (by decide)
 refine ⟨(arr.setIfInBounds (4 + i * 2) nv').setIfInBounds (4 + i * 2 + 1) mv', fun t => if t = i then nv' else nv t, fun t => if t = i then mv' else mv t,
  ⟨S.blk, by simpa using hsz, ?_, ?_, ?_, ?_, ?_, ?_, ?_, ?_, ?_, ?_, ?_, ?_, ?_⟩, ?_, hF⟩
 ·rw [hget _ (by omega) (by omega)]; exact H.a0
 ·intro j hj; rw [hget _ (by omega) (by omega)]; exact H.ag j hj
 ·intro j hj
  show _ = some (if j = i then nv' else nv j)
  by_cases e : j = i
  ·subst e; rw [if_pos rfl]; exact S.c0
  ·rw [if_neg e, hget _ (by omega) (by omega)]; exact H.an j hj
 ·intro j hj
  show _ = some (if j = i then mv' else mv j)
  by_cases e : j = i
  ·subst e; rw [if_pos rfl]; exact S.c1
  ·rw [if_neg e, hget _ (by omega) (by omega)]; exact H.am j hj
 ·rw [hget _ (by omega) (by omega)]; exact H.af
 ·rw [hget _ (by omega) (by omega)]; exact H.at'
 ·rw [hget _ (by omega) (by omega)]; exact H.aw
 ·rw [hget _ (by omega) (by omega)]; exact H.ae
 ·rw [hget _ (by omega) (by omega)]; exact H.ar
 ·exact H.fr.far hF (fun g hg h => h.elim (fun h => hfvp (by rw [hg, h])) (fun h => H.apf i hi g h hg))
 ·intro j hj
  show ShelfIs x (if j = i then nv' else nv j) (if j = i then mv' else mv j) (if j = i then l' else sh j)
  by_cases e : j = i
  ·rw [if_pos e, if_pos e, if_pos e]; exact S.sh
  ·rw [if_neg e, if_neg e, if_neg e]
   refine (H.shs j hj).far hF (fun k hk h => ?_)
   rcases h with h | h
   ·exact (H.shs j hj).ne H.blk (by decide) (by rw [← h]; exact hk)
   ·exact H.aps j i hj hi e k hk h
 ·intro j hj b hb
  replace hb : ShU (if j = i then nv' else nv j) (if j = i then mv' else mv j) b := hb
  by_cases e : j = i
  ·rw [if_pos e, if_pos e] at hb
   rcases hnew b hb with h | h
   ·exact H.apf i hi b h
   ·intro hf
    have := H.fr.lt b hf
    omega
  ·rw [if_neg e, if_neg e] at hb
   exact H.apf j hj b hb
 ·intro j j2 hj hj2 hne k hk
  replace hk : ShU (if j = i then nv' else nv j) (if j = i then mv' else mv j) k := hk
  show ¬ ShU (if j2 = i then nv' else nv j2) (if j2 = i then mv' else mv j2) k
  by_cases h1 : j = i
  ·subst h1
   rw [if_pos rfl, if_pos rfl] at hk
   rw [if_neg (fun e => hne e.symm), if_neg (fun e => hne e.symm)]
   intro hk2
   rcases hnew k hk with h | h
   ·exact H.aps j j2 hj hj2 hne k h hk2
   ·have := (H.shs j2 hj2).lt k hk2; omega
  ·rw [if_neg h1, if_neg h1] at hk
   by_cases h2 : j2 = i
   ·subst h2
    rw [if_pos rfl, if_pos rfl]
    intro hk2
    rcases hnew k hk2 with h | h
    ·exact H.aps j j2 hj hj2 hne k hk h
    ·have := (H.shs j hj).lt k hk; omega
   ·rw [if_neg h2, if_neg h2]
    exact H.aps j j2 hj hj2 hne k hk
 ·rintro k (rfl | hk | ⟨j, hj, hk⟩)
  ·exact .inl (.inl rfl)
  ·exact .inl (.inr (.inl hk))
  ·have hk : ShU (if j = i then nv' else nv j) (if j = i then mv' else mv j) k := hk
   by_cases e : j = i
   ·rw [if_pos e, if_pos e] at hk
    exact (hnew k hk).elim (fun h => .inl (.inr (.inr ⟨i, hi, h⟩))) .inr
   ·rw [if_neg e, if_neg e] at hk
    exact .inl (.inr (.inr ⟨j, hj, hk⟩))
theorem ka_free (H : KaAt w p g tk wel fen free sh arr s nv mv fv rv) (v : Value) (hF : Far (fun k => fv.ownBlock = some k) w x) (hv : RowO x 3 1 v free2.length (numCells free2)) (hl : Loc w fv v) :
  ∃ arr', KaAt (x.setCell ⟨p, 22, none⟩ v) p g tk wel fen free2 sh arr' s nv mv v rv ∧ (∀ k, KaU p nv mv v k → KaU p nv mv fv k ∨ w.heap.size ≤ k) ∧ Far (fun k => k = p ∨ fv.ownBlock = some k) w (x.setCell ⟨p, 22, none⟩ v) := by
 have hs := far_set x p 22 v
 have hget : ∀ j, j ≠ 22 → (arr.setIfInBounds 22 v)[j]? = arr[j]? := fun j hj => Array.getElem?_setIfInBounds_ne (fun e => hj e.symm)
 have h22 : 22 < arr.size := by rw [H.sz]; omega
 have hfvp : fv.ownBlock ≠ some p := H.fr.ne H.blk (by decide)
 have hbx := hF.blk H.blk hfvp
 have hvp : v.ownBlock ≠ some p := hv.ne hbx (by decide)
 have hF2 : Far (fun k => k = p ∨ fv.ownBlock = some k) w (x.setCell ⟨p, 22, none⟩ v) := (hF.mono (fun _ _ h => .inr h)).trans hs (fun _ _ h => .inl h)
 refine ⟨arr.setIfInBounds 22 v, ⟨blk_set hbx, by simpa using H.sz, ?_, ?_, ?_, ?_, ?_, ?_, ?_, ?_, ?_, ?_, ?_, ?_, H.aps⟩, ?_, hF2⟩
 ·rw [hget _ (by omega)]; exact H.a0
 ·intro j hj; rw [hget _ (by omega)]; exact H.ag j hj
 ·intro j hj; rw [hget _ (by omega)]; exact H.an j hj
 ·intro j hj; rw [hget _ (by omega)]; exact H.am j hj
 ·simp [h22]
 ·rw [hget _ (by omega)]; exact H.at'
 ·rw [hget _ (by omega)]; exact H.aw
 ·rw [hget _ (by omega)]; exact H.ae
 ·rw [hget _ (by omega)]; exact H.ar
 ·exact hv.far hs (fun g hg e => hvp (by rw [hg, e]))
 ·intro j hj
  refine (H.shs j hj).far hF2 (fun k hk e => ?_)
  rcases e with rfl | e
  ·exact (H.shs j hj).ne H.blk (by decide) hk
  ·exact H.apf j hj k hk e
 ·intro j hj b hb hvb
  rcases hl with h | h | ⟨g', h, hg'⟩
  ·rw [h] at hvb; cases hvb
  ·rw [h] at hvb; exact H.apf j hj b hb hvb
  ·rw [h] at hvb; cases hvb
   have := (H.shs j hj).lt b hb
   omega
 ·rintro k (rfl | hk | hk)
  ·exact .inl (.inl rfl)
  ·rcases hl with h | h | ⟨g', h, hg'⟩
   ·rw [h] at hk; cases hk
   ·exact .inl (.inr (.inl (by rw [← h]; exact hk)))
   ·rw [h] at hk; cases hk; exact .inr hg'
  ·exact .inl (.inr (.inr hk))
end
def toV (e : Mod.Pe) : Nat × Value := (e.1, recA e.2.1 e.2.2)
theorem keptL_toV : ∀ (b : Nat) (k : List (ByteArray × Nat)) (p : List Nat), keptL b k p = (Mod.keptP b k p).map toV
 | _, [], _ => by simp [keptL, Mod.keptP]
 | _, _ :: _, [] => by simp [keptL, Mod.keptP]
 | b, x :: r, q :: qs => by
  rw [keptL_cons, Mod.keptP, List.map_cons, keptL_toV (b + 1) r qs]
  rfl
theorem putL_toV (e : Mod.Pe) : ∀ l : List Mod.Pe, putL (l.map toV) e.1 (recA e.2.1 e.2.2) = (Mod.insP l e).map toV
 | [] => rfl
 | y :: r => by
  rw [List.map_cons, putL, Mod.insP]
  have h1 : (toV y).1 = y.1 := rfl
  rw [h1]
  rcases Nat.lt_trichotomy e.1 y.1 with c | c | c
  ·have c1 : ¬ e.1 = y.1 := by omega
   simp [c, c1, toV]
  ·have c2 : ¬ e.1 < y.1 := by omega
   simp [c, toV]
  ·have c1 : ¬ e.1 = y.1 := by omega
   have c2 : ¬ e.1 < y.1 := by omega
   simp [c1, c2, putL_toV e r]
theorem keys_toV (l : List Mod.Pe) : (l.map toV).map (·.1) = l.map (·.1) := by
 rw [List.map_map]; rfl
theorem areA_toV (l : List Mod.Pe) : AreA (l.map toV) := fun x hx => by
 obtain ⟨e, _, rfl⟩ := List.mem_map.1 hx
 exact ⟨e.2.1, e.2.2, rfl⟩
def shOf (l : Mod.Ld) (k : Nat) : List (Nat × Value) := if k % 3 = 0 then (l.sh (k / 3)).map toV else []
theorem shOf_kept (l : Mod.Ld) (i : Nat) : shOf l (i * 3) = (l.sh i).map toV := by
 unfold shOf
 rw [if_pos (by omega), show i * 3 / 3 = i by omega]
theorem shOf_put (l : Mod.Ld) (i : Nat) (l' : List Mod.Pe) : (fun t => if t = i * 3 then l'.map toV else shOf l t) = shOf { l with sh := fun j => if j = i then l' else l.sh j } := by
 funext t
 unfold shOf
 by_cases h : t = i * 3
 ·subst h
  rw [if_pos rfl, if_pos (by omega), show i * 3 / 3 = i by omega]
  simp
 ·rw [if_neg h]
  by_cases h2 : t % 3 = 0
  ·rw [if_pos h2, if_pos h2]
   have : ¬ t / 3 = i := by omega
   simp [this]
  ·rw [if_neg h2, if_neg h2]
end Go.Proofs.YtamafdcnbcoegaaGreat
namespace Go.Proofs.YtamafdcnbcoegaaGreat
open Go.RowKit
namespace Mod
theorem insP_length (e : Pe) : ∀ l : List Pe, (insP l e).length ≤ l.length + 1
 | [] => by simp [insP]
 | y :: r => by
  have := insP_length e r
  unfold insP
  split
  ·simp
  ·split
   ·simp
   ·simp; omega
theorem ldAll_app (g : Nat → Nat) : ∀ (rs qs : List Rc) (x : Nat) (l : Ld), ldAll g (rs ++ qs) x l = match ldAll g rs x l with
  | none => none
  | some l' => ldAll g qs (x + rs.length) l'
 | [], qs, x, l => by simp [ldAll]
 | r :: rs, qs, x, l => by
  rw [List.cons_append, ldAll, ldAll, List.length_cons, show x + (rs.length + 1) = x + 1 + rs.length by omega]
  cases ldStep g x r l with
  | none => rfl
  | some l' => exact ldAll_app g rs qs (x + 1) l'
theorem ldAll_step {g : Nat → Nat} {rs : List Rc} {j : Nat} {r : Rc} {l : Ld} (hr : rs[j]? = some r) (h : ldAll g (rs.take j) 0 ld0 = some l) : ldAll g (rs.take (j + 1)) 0 ld0 = ldStep g j r l := by
 obtain ⟨hj, e⟩ := List.getElem?_eq_some_iff.1 hr
 rw [List.take_succ_eq_append_getElem hj, e, ldAll_app, h]
 simp only [List.length_take]
 rw [show 0 + min j rs.length = j by omega]
 unfold ldAll
 cases ldStep g j r l with
 | none => rfl
 | some l' => rfl
theorem ldAll_bad {g : Nat → Nat} {rs : List Rc} {j : Nat} (h : ldAll g (rs.take j) 0 ld0 = none) : ldAll g rs 0 ld0 = none := by
 have := ldAll_app g (rs.take j) (rs.drop j) 0 ld0
 rw [List.take_append_drop, h] at this
 exact this
theorem ldStep_len {g : Nat → Nat} {x : Nat} {r : Rc} {l l' : Ld} (h : ldStep g x r l = some l') : l'.free.length ≤ l.free.length + 1 ∧ ∀ i, (l'.sh i).length ≤ (l.sh i).length + 1 := by
 unfold ldStep at h
 split at h
 ·cases h
  exact ⟨by simp, fun i => Nat.le_succ _⟩
 ·split at h
  ·cases h
  ·cases h
   refine ⟨by simp, fun i => ?_⟩
   simp only
   split
   ·rename_i e
    have := insP_length (r.q, r.b, x) (l.sh r.s)
    rw [e]
    exact this
   ·omega
theorem ldAll_len {g : Nat → Nat} : ∀ (rs : List Rc) (x : Nat) (l l' : Ld), ldAll g rs x l = some l' → l'.free.length ≤ l.free.length + rs.length ∧ ∀ i, (l'.sh i).length ≤ (l.sh i).length + rs.length
 | [], _, l, l', h => by cases h; exact ⟨by simp, fun i => by simp⟩
 | r :: rs, x, l, l', h => by
  unfold ldAll at h
  cases hs : ldStep g x r l with
  | none => rw [hs] at h; cases h
  | some l1 =>
   rw [hs] at h
   obtain ⟨a1, a2⟩ := ldStep_len hs
   obtain ⟨b1, b2⟩ := ldAll_len rs (x + 1) l1 l' h
   refine ⟨by simp; omega, fun i => ?_⟩
   have := a2 i
   have := b2 i
   simp
   omega
theorem insP_mem {e y : Pe} : ∀ {l : List Pe}, y ∈ insP l e → y = e ∨ y ∈ l
 | [], h => by simp [insP] at h; exact .inl h
 | z :: r, h => by
  unfold insP at h
  split at h
  ·cases h with
   | head => exact .inl rfl
   | tail _ h => exact .inr (.tail _ h)
  ·split at h
   ·cases h with
    | head => exact .inl rfl
    | tail _ h => exact .inr h
   ·cases h with
    | head => exact .inr (.head _)
    | tail _ h => exact (insP_mem h).imp id (fun h => .tail _ h)
theorem ldAll_inv {g : Nat → Nat} (R : Nat → Pe → Prop) : ∀ (rs : List Rc) (x : Nat) (l l' : Ld), ldAll g rs x l = some l' → (∀ i, ∀ e ∈ l.sh i, R i e) → (∀ j r, rs[j]? = some r → ¬ r.q ≤ g r.s → R r.s (r.q, r.b, x + j)) → ∀ i, ∀ e ∈ l'.sh i, R i e
 | [], _, l, l', h, h1, _ => by cases h; exact h1
 | r :: rs, x, l, l', h, h1, h2 => by
  unfold ldAll at h
  cases hs : ldStep g x r l with
  | none => rw [hs] at h; cases h
  | some l1 =>
   rw [hs] at h
   refine ldAll_inv R rs (x + 1) l1 l' h ?_ (fun j r' hj hq => by
    have := h2 (j + 1) r' (by simpa using hj) hq
    rw [show x + 1 + j = x + (j + 1) by omega]
    exact this)
   unfold ldStep at hs
   split at hs
   ·cases hs; exact h1
   ·rename_i hq
    split at hs
    ·cases hs
    ·cases hs
     intro i e he
     simp only at he
     split at he
     ·rename_i hi
      subst hi
      rcases insP_mem he with rfl | he
      ·exact h2 0 r rfl hq
      ·exact h1 _ e he
     ·exact h1 i e he
def ldRes (g : Nat → Nat) (rs : List Rc) : Option Ld := match ldAll g rs 0 ld0 with
 | none => none
 | some l => if okP (l.sh 0) (g 0) = true ∧ okP (l.sh 1) (g 1) = true ∧ okP (l.sh 2) (g 2) = true then some l else none
end Mod
def AgLd (w x : World) (p s : Nat) (g : Nat → Nat) (l : Mod.Ld) : Prop :=
 ∃ arr nv mv fv, KaAt x p g 0 false false l.free (shOf l) arr s nv mv fv (.slice none 0 0) ∧ Far (fun k => k = p) w x ∧ ∀ k, KaU p nv mv fv k → k = p ∨ w.heap.size ≤ k
theorem AgLd.below {w x y : World} {p s : Nat} {g : Nat → Nat} {l : Mod.Ld} (h : AgLd w x p s g l) (hb : Below x.heap.size x y) : AgLd w y p s g l := by
 obtain ⟨arr, nv, mv, fv, h1, h2, h3⟩ := h
 exact ⟨arr, nv, mv, fv, h1.far (far_below (E := fun _ => False) hb) (fun _ _ h => h), h2.trans (far_below (E := fun _ => False) hb) (fun _ _ h => h.elim), h3⟩
set_option maxHeartbeats 1000000 in
theorem kaLast_any {w : World} {p s : Nat} {g : Nat → Nat} {l : Mod.Ld} {arr : Array Value} {nv mv : Nat → Value} {fv rv : Value} (K : KaAt w p g 0 false false l.free (shOf l) arr s nv mv fv rv) {i : Nat} (hi : i < 3) :
  Calls Tryz.prog 88 #[ptrTo p, .int .i64 i] w fun r w' => r = .returned (.int .i64 (Mod.lastP (l.sh i) (g i) : Nat)) ∧ ∃ n, w' = w.drewN n := by
 have hL := lastA_any K.blk (K.an (i * 3) (by omega)) (K.shs (i * 3) (by omega))
 rw [shOf_kept, show 4 + i * 3 * 2 = 4 + i * 6 by omega] at hL
 obtain ⟨m, fb, hm, hL⟩ : ∃ (m : Nat) (fb : Bool), max m (g i) = Mod.lastP (l.sh i) (g i) ∧ Calls Tryz.prog 129 #[.pointer (some ⟨p, 4 + i * 6, none⟩)] w fun e w' => e = .returned (.tuple #[.int .i64 m, .bool fb]) ∧ ∃ n, w' = w.drewN n := by
  unfold Mod.lastP
  rw [List.getLast?_map] at hL
  cases hq : (l.sh i).getLast? with
  | none => rw [hq] at hL; exact ⟨0, false, rfl, hL⟩
  | some x => rw [hq] at hL; exact ⟨x.1, true, rfl, hL⟩
 have cg : w.cell? ⟨p, 1 + i, none⟩ = some (.int .i64 (g i)) := by rw [blk_cell K.blk, K.ag i hi]
 obtain ⟨n, hn⟩ : ∃ n, n = Mod.lastP (l.sh i) (g i) := ⟨_, rfl⟩
 rw [← hn] at hm ⊢
 obtain ⟨b, hb⟩ : ∃ b, b = g i := ⟨_, rfl⟩
 rw [← hb] at hm cg
 have hmI : max (m : Int) (b : Int) = (n : Int) := by omega
 have HL := hide hL
 have hi0 : (0 : Int) ≤ (i : Int) := by omega
 have hi3 : (i : Int) < 3 := by omega
 clear K hL hn hb hm
 unfold ptrTo
 go_enter Tryz.func88, Tryz.ntmps88
 go_wp2_with (go_at_call 129; refine (unhide HL).mono ?_; rintro r y ⟨rfl, q, rfl⟩)
 go_ret
 exact ⟨by first | rfl | simp [hmI], q, rfl⟩
end Go.Proofs.YtamafdcnbcoegaaGreat
namespace Go.Proofs.YtamafdcnbcoegaaGreat
open Go.RowKit
theorem agLd_new {w : World} {p s : Nat} {g : Nat → Nat} {arr : Array Value} (hb : w.heap[p]? = some (.cells arr 151 (0, 0))) (ha : arr = (((newAg s (.slice none 0 0) (.slice none 0 0)).setIfInBounds 1 (.int .i64 (g 0))).setIfInBounds 2 (.int .i64 (g 1))).setIfInBounds 3 (.int .i64 (g 2))) : AgLd w w p s g Mod.ld0 := by
 have hsz : arr.size = 27 := by rw [ha]; rfl
 have hz : ∀ k, shOf Mod.ld0 k = [] := fun k => by
  unfold shOf Mod.ld0
  split <;> rfl
 have hg : ∀ j, j ≠ 1 → j ≠ 2 → j ≠ 3 → arr[j]? = (newAg s (.slice none 0 0) (.slice none 0 0))[j]? := fun j h1 h2 h3 => by
  rw [ha, Array.getElem?_setIfInBounds_ne (fun e => h3 e.symm), Array.getElem?_setIfInBounds_ne (fun e => h2 e.symm), Array.getElem?_setIfInBounds_ne (fun e => h1 e.symm)]
 refine ⟨arr, fun _ => .slice none 0 0, fun _ => .map none, .slice none 0 0, ⟨hb, hsz, ?_, fun i hi => ?_, fun k hk => ?_, fun k hk => ?_, ?_, ?_, ?_, ?_, ?_, rowO_nil _ _ _, fun k hk => by rw [hz]; exact shelfIs_nil _, fun k hk j hj => ?_, fun j k _ _ _ b hb => ?_⟩, Far.refl _ _, ?_⟩
 ·rw [hg _ (by omega) (by omega) (by omega)]; rfl
 ·obtain rfl | rfl | rfl : i = 0 ∨ i = 1 ∨ i = 2 := by omega
  all_goals
   rw [ha]
   rfl
 ·rw [hg _ (by omega) (by omega) (by omega)]; exact ((newAg_get s _ _).2 k hk).1
 ·rw [hg _ (by omega) (by omega) (by omega)]; exact ((newAg_get s _ _).2 k hk).2
 ·rw [hg _ (by omega) (by omega) (by omega)]; rfl
 ·rw [hg _ (by omega) (by omega) (by omega)]; rfl
 ·rw [hg _ (by omega) (by omega) (by omega)]; rfl
 ·rw [hg _ (by omega) (by omega) (by omega)]; rfl
 ·rw [hg _ (by omega) (by omega) (by omega)]; rfl
 ·rcases hj with h | h <;> cases h
 ·rcases hb with h | h <;> cases h
 ·rintro k (h | h | ⟨i, _, h⟩)
  ·exact .inl h
  ·cases h
  ·rcases h with h | h <;> cases h
set_option maxRecDepth 100000 in
set_option maxHeartbeats 8000000 in
theorem agLoad_any {w : World} {p s g cap m : Nat} {G : Nat → Nat} {rs : List Mod.Rc} (hp : AgLd w w p s G Mod.ld0) (hrow : w.ownsRow 0 155 3 (.slice (some ⟨g, 0, none⟩) m cap) m (rcRow rs)) (hml : rs.length = m) (hm : m ≤ 24)
  (hrs : ∀ r ∈ rs, r = Mod.rc0 ∨ r.fits) (hG : ∀ i, i < 3 → G i ≤ 2147483647) :
  Calls Tryz.prog 103 #[ptrTo p, .slice (some ⟨g, 0, none⟩) m cap] w fun r w' => r = .returned (.bool (Mod.ldRes G rs).isSome) ∧ Far (fun k => k = p) w w' ∧ ∀ l, Mod.ldRes G rs = some l → AgLd w w' p s G l := by
 have hpb : ∃ arr, w.heap[p]? = some (.cells arr 151 (0, 0)) := by obtain ⟨arr, _, _, _, K, _⟩ := hp; exact ⟨arr, K.blk⟩
 obtain ⟨arr0, hpb⟩ := hpb
 have hgp : 0 < m → g ≠ p := fun _ e => by
  have := (RowO.of_own hrow).ne hpb (by decide)
  exact this (by rw [e]; rfl)
 have hc : ∀ j r, rs[j]? = some r → w.cell? ⟨g, j * 3, none⟩ = some (.int .i64 r.s) ∧ w.cell? ⟨g, j * 3 + 1, none⟩ = some (.int .i64 r.q) ∧ w.cell? ⟨g, j * 3 + 2, none⟩ = some (.string r.b) := by
  intro j r hj
  have hjm := (List.getElem?_eq_some_iff.1 hj).1
  obtain ⟨ad, cap', e, _, _, hcl⟩ := (RowO.of_own hrow).shape
  obtain ⟨g', o', e2, hcl⟩ := hcl (by omega)
  rw [e2] at e
  injection e with e
  injection e with e
  injection e with e e'
  subst e e'
  have hlen := length_rcRow rs
  have := rcRow_get rs j r hj
  refine ⟨?_, ?_, ?_⟩
  ·have h := hcl (j * 3) (by omega); rw [Nat.zero_add] at h; rw [h]; exact this.1
  ·have h := hcl (j * 3 + 1) (by omega); rw [Nat.zero_add] at h; rw [h]; exact this.2.1
  ·have h := hcl (j * 3 + 2) (by omega); rw [Nat.zero_add] at h; rw [h]; exact this.2.2
 have HC := hide hc
 have HGP := hide hgp
 have hpl := lt_of_block hpb
 have HP := hide hp
 have HRS := hide hrs
 have HML := hide hml
 have HGM := hide hG
 clear hrow hc hgp hp hrs hml hG hpb
 unfold ptrTo
 go_enter Tryz.func103, Tryz.ntmps103
 go_wp2
 go_loopw [5, 6, 7, 12] (fun _ _ _ i wr => ∃ j : Nat, j ≤ m ∧ i = .int .i64 j ∧ ∃ l, Mod.ldAll G (rs.take j) 0 Mod.ld0 = some l ∧ AgLd w wr p s G l) (fun _ _ _ i _ => m - (intOf i).toNat)
 case atStart => exact ⟨0, by omega, rfl, _, rfl, unhide HP⟩
 case round =>
  obtain ⟨j, hj, rfl, l, hsk, hL⟩ := hrel
  clear HP
  by_cases hlt : j < m
  ·obtain ⟨r, hr⟩ : ∃ r, rs[j]? = some r := ⟨_, List.getElem?_eq_getElem (by have := unhide HML; omega)⟩
   obtain ⟨e0, e1, e2⟩ := (unhide HC) j r hr
   have hst := Mod.ldAll_step hr hsk
   have hll := Mod.ldAll_len _ _ _ _ hsk
   have hrf := (unhide HRS) r (List.mem_of_getElem? hr)
   have hs3 : r.s < 3 := by
    rcases hrf with h | h
    ·rw [h]; show 0 < 3; omega
    ·exact h.1
   have hgl : g < w.heap.size := World.block_lt_of_cell? _ _ e0
   have hbk : wr.heap[g]? = w.heap[g]? := by obtain ⟨_, _, _, _, _, hF, _⟩ := hL; exact hF.rest g hgl ((unhide HGP) (by omega))
   have y0 := (World.cell?_of_block (w := w) hbk : wr.cell? ⟨g, j * 3, none⟩ = _).trans e0
   have y1 := (World.cell?_of_block (w := w) hbk : wr.cell? ⟨g, j * 3 + 1, none⟩ = _).trans e1
   have y2 := (World.cell?_of_block (w := w) hbk : wr.cell? ⟨g, j * 3 + 2, none⟩ = _).trans e2
   have hlen1 : l.free.length ≤ 24 := by have := hll.1; simp [Mod.ld0] at this; omega
   have hlen2 : (l.sh r.s).length ≤ 24 := by have := hll.2 r.s; simp [Mod.ld0] at this; omega
   have HL := hide hL
   have HST := hide hst
   have HRF := hide hrf
   clear hbk e0 e1 e2 hL hsk hst hr hll hrf
   obtain ⟨g6, hg6⟩ : ∃ g6, g6 = wr.heap.size := ⟨_, rfl⟩
   have hpw : p < wr.heap.size := by obtain ⟨_, _, _, _, K, _⟩ := unhide HL; exact lt_of_block K.blk
   have hg6p : g6 ≠ p := by omega
   go_upto_region 4 with fail
   rw [← hg6]
   refine wp_world (fun x => x.heap[g6]? = some (.cells #[.int .i64 r.s, .int .i64 r.q, .string r.b] 155 (0, 0)) ∧ AgLd w x p s G l) ?_ ?_
   ·rw [hg6]
    exact ⟨heap_alloc_new _ _, (unhide HL).below ((Below.refl _ _).alloc (Nat.le_refl _) _)⟩
   clear y0 y1 y2 hg6 HL hpw
   rintro x ⟨h6, hLx⟩
   have r0 := blk_cell (i := 0) h6
   have r1 := blk_cell (i := 1) h6
   have r2 := blk_cell (i := 2) h6
   simp at r0 r1 r2
   have H6 := hide h6
   have HL := hide hLx
   obtain ⟨arr, nv, mv, fv, K, F, N⟩ := hLx
   have cg : x.cell? ⟨p, 1 + r.s, none⟩ = some (.int .i64 (G r.s)) := by rw [blk_cell K.blk, K.ag r.s hs3]
   have s0 : (0 : Int) ≤ (r.s : Int) := by omega
   have s3 : (r.s : Int) < 3 := by omega
   obtain ⟨gs, hgs⟩ : ∃ gs, gs = G r.s := ⟨_, rfl⟩
   rw [← hgs] at cg
   have HGS := hide hgs
   clear K F N h6 hgs
   by_cases hq : r.q ≤ gs
   ·have hqi : (r.q : Int) ≤ (gs : Int) := by omega
    have hnx : Hid (Mod.ldAll G (rs.take (j + 1)) 0 Mod.ld0 = some { l with free := l.free ++ [j] }) := by
     show _ = _
     rw [unhide HST]
     unfold Mod.ldStep
     rw [if_pos (by rw [← unhide HGS]; exact hq)]
    clear HST hq
    go_quiet (fail)
    go_upto_region 5 with fail
    refine wp_world (fun y => AgLd w y p s G l) ((unhide HL).below (below_drewN (Below.refl _ _) _)) ?_
    clear r0 r1 r2 H6 HL cg hqi
    intro y hL
    obtain ⟨arr, nv, mv, fv, K, F, N⟩ := hL
    obtain ⟨m2, hm2⟩ : ∃ m2, m2 = l.free.length := ⟨_, rfl⟩
    obtain ⟨ad2, cap2, hfv, _⟩ := K.fr.shape
    have hrow2 := K.fr
    rw [← hm2] at hfv hrow2
    have hm24 : m2 ≤ 24 := by omega
    have d22 : y.cell? ⟨p, 22, none⟩ = some (.slice ad2 m2 cap2) := by rw [blk_cell K.blk, K.af, hfv]
    rw [hfv] at hrow2
    have hra := fun ob => hide (hrow2.keep (w' := y.alloc ob) (fun g hg => hao _ _ (hrow2.lt g hg)))
    have hup := K.fr.ne K.blk (by decide)
    have HAPP : ∀ ob v' w1, RowO w1 3 1 v' (m2 + 1) (numCells l.free ++ [.int .i64 j]) → App (y.alloc ob) w1 (.slice ad2 m2 cap2) v' → ∃ ad3 cap3, v' = .slice ad3 (m2 + 1) cap3 ∧ w1.frozen? ⟨p, 22, none⟩ = false ∧ w1.cell? ⟨p, 22, none⟩ = some (.slice ad2 m2 cap2) ∧
      Hid (AgLd w (w1.setCell ⟨p, 22, none⟩ v') p s G { l with free := l.free ++ [j] }) := by
     intro ob v' w1 h1 h2
     obtain ⟨ad3, cap3, hv3, _⟩ := h1.shape
     have hFz : Far (fun k => (Value.slice ad2 m2 cap2).ownBlock = some k) y w1 := (far_below (E := fun k => (Value.slice ad2 m2 cap2).ownBlock = some k) ((Below.refl _ _).alloc (Nat.le_refl _) ob)).trans (far_grown h2.grown) (fun _ _ h => h)
     rw [← hfv] at hFz
     have hpb := hFz.blk K.blk hup
     have hlc : Loc y fv v' := by rw [hfv]; exact loc_app (w := y) (by simp) h2
     have hl1 : (l.free ++ [j]).length = m2 + 1 := by rw [List.length_append, ← hm2]; rfl
     obtain ⟨arr', K', N', F'⟩ := ka_free (free2 := l.free ++ [j]) K v' hFz (by rw [hl1, show numCells (l.free ++ [j]) = numCells l.free ++ [.int .i64 j] by simp [numCells]]; exact h1) hlc
     refine ⟨ad3, cap3, hv3, blk_free (i := 22) hpb, ?_, hide ⟨arr', nv, mv, v', K', ?_, fun k hk => ?_⟩⟩
     ·rw [blk_cell hpb, K.af, hfv]
     ·refine F.trans F' (fun k hk h => ?_)
      rcases h with h | h
      ·exact h
      ·rcases N k (.inr (.inl h)) with h | h
       ·exact h
       ·omega
     ·rcases N' k hk with h | h
      ·exact N k h
      ·exact .inr (Nat.le_trans F.size h)
    clear K F N hrow2 hfv hm2 hup
    go_upto_region 10 with (at_builtin; refine wpList_app_o rfl (.tmp 31) (.tmp 33) 26 rfl 3 _ 1 8 Tryz.underlying26 infoI rfl _ m2 (numCells l.free) (unhide (hra _)) rfl ⟨y.heap.size, 0, none⟩ 1 1 [.int .i64 j] rfl rfl cells_new (by intro u hu; simp at hu; subst hu; rfl) (by omega) (by omega) (by omega) ?_; intro v' w1 h1 h2; obtain ⟨ad3, cap3, rfl, zf, z1, HA⟩ := HAPP _ _ _ h1 h2; clear h1 h2; go_simp)
    go_wp2
    exact ⟨⟨j + 1, by omega, by go_num, _, unhide hnx, unhide HA⟩, by simp [intOf]; omega⟩
   ·have hqi : ¬ (r.q : Int) ≤ (gs : Int) := by omega
    have hrfit : r.fits := by
     rcases unhide HRF with h | h
     ·exfalso
      rw [h] at hq
      exact hq (Nat.zero_le _)
     ·exact h
    have HFIT := hide hrfit
    have HQG : Hid (¬ r.q ≤ G r.s) := by rw [← unhide HGS]; exact hide hq
    clear hrfit hq HRF
    go_quiet (fail)
    go_upto_region 6 with fail
    go_quiet (fail)
    go_upto_region 7 with fail
    refine wp_world (fun y => y.heap[g6]? = some (.cells #[.int .i64 r.s, .int .i64 r.q, .string r.b] 155 (0, 0)) ∧ AgLd w y p s G l) ⟨unhide H6, (unhide HL).below (below_drewN (below_drewN (Below.refl _ _) _) _)⟩ ?_
    clear r0 r1 r2 H6 HL cg hqi
    rintro y ⟨h6, hL⟩
    have r1 := blk_cell (i := 1) h6
    simp at r1
    have H6 := hide h6
    have HL := hide hL
    obtain ⟨arr, nv, mv, fv, K, F, N⟩ := hL
    have hHas := hasA_any K.blk (K.am (r.s * 3) (by omega)) (K.shs (r.s * 3) (by omega)) (by rw [shOf_kept]; exact areA_toV _) (r.q : Int)
    rw [shOf_kept, look_isSome, keys_toV, show 4 + r.s * 3 * 2 = 4 + r.s * 6 by omega] at hHas
    obtain ⟨hb, hhb⟩ : ∃ hb, hb = ((l.sh r.s).map (·.1)).contains r.q := ⟨_, rfl⟩
    rw [← hhb] at hHas
    have HHS := hide hHas
    have HHB := hide hhb
    clear K F N h6 hHas hhb
    cases hb with
    | true =>
     have hbad : Hid (Mod.ldRes G rs = none) := by
      have h := unhide HST
      unfold Mod.ldStep at h
      rw [if_neg (unhide HQG), ← unhide HHB, if_pos rfl] at h
      show _ = _
      unfold Mod.ldRes
      rw [Mod.ldAll_bad h]
     have HF : Hid (Far (fun k => k = p) w y) := by obtain ⟨_, _, _, _, _, F, _⟩ := unhide HL; exact F
     clear HST HL
     go_wp2_with (go_at_call 150; refine (unhide HHS).mono ?_; rintro e y2 ⟨rfl, hb2⟩; replace hb2 := hide hb2)
     go_ret
     refine ⟨ret_b (by rw [unhide hbad]; rfl), (unhide HF).trans (far_below (E := fun _ => False) (unhide hb2)) (fun _ _ h => h.elim), fun l2 h => ?_⟩
     rw [unhide hbad] at h
     cases h
    | false =>
     have hnx : Hid (Mod.ldAll G (rs.take (j + 1)) 0 Mod.ld0 = some { l with sh := fun i => if i = r.s then Mod.insP (l.sh r.s) (r.q, r.b, j) else l.sh i }) := by
      show _ = _
      rw [unhide HST]
      unfold Mod.ldStep
      rw [if_neg (unhide HQG), ← unhide HHB, if_neg (by simp)]
     clear HST
     go_upto_region 9 with (go_at_call 150; refine (unhide HHS).mono ?_; rintro e y2 ⟨rfl, hb2⟩)
     refine wp_world (fun y => y.heap[g6]? = some (.cells #[.int .i64 r.s, .int .i64 r.q, .string r.b] 155 (0, 0)) ∧ AgLd w y p s G l) ⟨(hb2.block _ (lt_of_block (unhide H6))).trans (unhide H6), (unhide HL).below hb2⟩ ?_
     clear hb2 HHS H6 HL r1
     rintro z ⟨h6, hL⟩
     have r1 := blk_cell (i := 1) h6
     have r2 := blk_cell (i := 2) h6
     simp at r1 r2
     have HL := hide hL
     obtain ⟨arr, nv, mv, fv, K, F, N⟩ := hL
     have SA : ShAt z p (4 + r.s * 3 * 2) 151 arr (nv (r.s * 3)) (mv (r.s * 3)) ((l.sh r.s).map toV) := ⟨K.blk, K.an _ (by omega), K.am _ (by omega), by have := K.shs (r.s * 3) (by omega); rw [shOf_kept] at this; exact this, by decide⟩
     have hPut := putA_any SA (by simp; omega) r.q r.b j
     have hpt := putL_toV (r.q, r.b, j) (l.sh r.s)
     simp only at hpt
     rw [hpt] at hPut
     unfold recA at hPut
     rw [show 4 + r.s * 3 * 2 = 4 + r.s * 6 by omega] at hPut
     have hfin : ∀ z2, ShStep z z2 p (4 + r.s * 6) 151 arr (nv (r.s * 3)) (mv (r.s * 3)) ((Mod.insP (l.sh r.s) (r.q, r.b, j)).map toV) → AgLd w z2 p s G { l with sh := fun i => if i = r.s then Mod.insP (l.sh r.s) (r.q, r.b, j) else l.sh i } := by
      intro z2 hst
      rw [show 4 + r.s * 6 = 4 + r.s * 3 * 2 by omega] at hst
      obtain ⟨arr', nv', mv', K', N', F'⟩ := ka_sh K (by omega) hst
      refine ⟨arr', nv', mv', fv, ?_, ?_, fun k hk => ?_⟩
      ·have := shOf_put l r.s (Mod.insP (l.sh r.s) (r.q, r.b, j))
       rw [this] at K'
       exact K'
      ·refine F.trans F' (fun k hk h => ?_)
       rcases h with h | h
       ·exact h
       ·rcases N k (.inr (.inr ⟨r.s * 3, by omega, h⟩)) with h | h
        ·exact h
        ·omega
      ·rcases N' k hk with h | h
       ·exact N k h
       ·exact .inr (Nat.le_trans F.size h)
     have HFIN := fun z2 h => hide (hfin z2 h)
     have HPUT := hide hPut
     clear K F N h6 SA hPut hpt hfin HL
     go_wp2_with (go_at_call 90; refine (unhide HPUT).mono ?_; rintro e z2 ⟨rfl, hst⟩; have HZ2 := HFIN z2 hst; clear hst)
     exact ⟨⟨j + 1, by omega, by go_num, _, unhide hnx, unhide HZ2⟩, by simp [intOf]; omega⟩
  ·have hjm : j = m := by omega
   have hall : Mod.ldAll G rs 0 Mod.ld0 = some l := by
    rw [← hsk, List.take_of_length_le (by have := unhide HML; omega)]
   have hlen := Mod.ldAll_len _ _ _ _ hall
   have hnum : ∀ i, ∀ e ∈ l.sh i, e.1 ≤ 2147483647 := Mod.ldAll_inv (fun _ e => e.1 ≤ 2147483647) _ _ _ _ hall (fun i e he => by cases he) (fun k r hr _ => by
    rcases (unhide HRS) r (List.mem_of_getElem? hr) with h | h
    ·rw [h]; exact Nat.zero_le _
    ·exact h.2.2.1)
   have hls : ∀ t, t < 3 → (l.sh t).length ≤ 24 := fun t _ => by have := hlen.2 t; have := unhide HML; simp [Mod.ld0] at *; omega
   have hlast : ∀ t, t < 3 → Mod.lastP (l.sh t) (G t) ≤ 2147483647 := fun t ht => by
    have h1 := (unhide HGM) t ht
    unfold Mod.lastP
    cases hq : (l.sh t).getLast? with
    | none => simp only; omega
    | some e =>
     have := hnum t e (List.mem_of_getLast? hq)
     simp only
     omega
   have HALL := hide (And.intro hall (And.intro hls hlast))
   obtain ⟨W0, hW0⟩ : ∃ W0, W0 = wr := ⟨_, rfl⟩
   rw [← hW0] at hL
   have HW0 := hide hW0
   have HL := hide hL
   have hjn : ¬ (j : Int) < (m : Int) := by omega
   clear hW0 hL hall hls hlast hlen hnum hsk hjm hlt
   go_wp2
   go_loopw [8, 9, 57] (fun _ _ i wr2 => ∃ t : Nat, t ≤ 3 ∧ i = .int .i64 t ∧ Below W0.heap.size W0 wr2 ∧ ∀ k, k < t → Mod.okP (l.sh k) (G k) = true) (fun _ _ i _ => 3 - (intOf i).toNat)
   case atStart => exact ⟨0, by omega, rfl, by rw [unhide HW0]; exact Below.refl _ _, fun k hk => by omega⟩
   case round =>
    obtain ⟨t, ht, rfl, hb, hok⟩ := hrel
    by_cases ht3 : t < 3
    ·have hLt := (unhide HL).below hb
     obtain ⟨arr, nv, mv, fv, K, F, N⟩ := hLt
     have HLA := hide (kaLast_any K ht3)
     have HB := hide hb
     have hlm := (unhide HALL).2.2 t ht3
     have hlt24 := (unhide HALL).2.1 t ht3
     have hgm := (unhide HGM) t ht3
     have ht0 : (0 : Int) ≤ (t : Int) := by omega
     have ht3' : (t : Int) < 3 := by omega
     obtain ⟨la, hla⟩ : ∃ la, la = Mod.lastP (l.sh t) (G t) := ⟨_, rfl⟩
     obtain ⟨ln, hln⟩ : ∃ ln, ln = (l.sh t).length := ⟨_, rfl⟩
     obtain ⟨gt, hgt⟩ : ∃ gt, gt = G t := ⟨_, rfl⟩
     have hokt : Mod.okP (l.sh t) (G t) = (decide (la ≤ 1073741824) && decide (la = gt + ln)) := by rw [hla, hln, hgt]; rfl
     rw [← hla] at HLA hlm
     rw [← hln] at hlt24
     rw [← hgt] at hgm
     have HOK := hide (And.intro hok hokt)
     have HLG := hide (And.intro hln hgt)
     clear K F N hb hla hln hgt hok hokt
     have hsumw : IntKind.i64.wrap ((gt : Int) + (ln : Int)) = (gt : Int) + (ln : Int) := by rw [IntKind.wrap_i64]; omega
     have hbad : Hid (Mod.okP (l.sh t) (G t) = false → Mod.ldRes G rs = none) := by
      refine hide (fun h => ?_)
      unfold Mod.ldRes
      rw [(unhide HALL).1]
      simp only
      rw [if_neg]
      rintro ⟨q0, q1, q2⟩
      obtain rfl | rfl | rfl : t = 0 ∨ t = 1 ∨ t = 2 := by omega
      ·rw [h] at q0; cases q0
      ·rw [h] at q1; cases q1
      ·rw [h] at q2; cases q2
     unfold ptrTo at *
     go_upto_region 15 with (go_at_call 88; refine (unhide HLA).mono ?_; rintro r y ⟨rfl, q, rfl⟩)
     refine wp_world (fun x => Below W0.heap.size W0 x) ((unhide HB).trans (below_drewN (Below.refl _ _) _ |>.mono (unhide HB).size)) ?_
     clear HB HLA
     intro x hbx
     have hLx := (unhide HL).below hbx
     obtain ⟨arr, nv, mv, fv, K, F, N⟩ := hLx
     have HB := hide hbx
     have hLen : ∀ n, Calls Tryz.prog 143 #[.pointer (some ⟨p, 4 + t * 3 * 2, none⟩)] (x.drewN n) fun e w' => e = .returned (.int .i64 ((shOf l (t * 3)).length : Nat)) ∧ w' = x.drewN n := fun n => lenA_any (w := x.drewN n) K.blk (K.an (t * 3) (by omega)) ((K.shs (t * 3) (by omega)).far (far_drewN (fun _ => False) x n) (fun _ _ h => h))
     have hshl : (shOf l (t * 3)).length = ln := by rw [shOf_kept, List.length_map, (unhide HLG).1]
     rw [hshl, show 4 + t * 3 * 2 = 4 + t * 6 by omega] at hLen
     have HLen := fun n => hide (hLen n)
     have c1 : x.cell? ⟨p, 1 + t, none⟩ = some (.int .i64 gt) := by rw [blk_cell K.blk, K.ag t ht3, (unhide HLG).2]
     clear K F N hbx hLen hshl
     by_cases c2 : (1073741824 : Int) < (la : Int)
     ·have hno := (unhide hbad) (by rw [(unhide HOK).2, decide_eq_false (show ¬ la ≤ 1073741824 by omega)]; rfl)
      have HNO := hide hno
      clear hno hbad HOK
      go_quiet (first | (go_at_call 143; exact Calls.quiet_of_same (unhide (HLen _))))
      go_wp2
      go_ret
      refine ⟨ret_b (by rw [unhide HNO]; rfl), ?_, fun l2 h => ?_⟩
      ·obtain ⟨_, _, _, _, _, F, _⟩ := unhide HL
       exact F.trans (far_below (E := fun _ => False) ((unhide HB).trans (below_drewN (Below.refl _ _) _ |>.mono (unhide HB).size))) (fun _ _ h => h.elim)
      ·rw [unhide HNO] at h
       cases h
     ·by_cases c3 : (la : Int) = (gt : Int) + (ln : Int)
      ·have c3' : ((la : Int) != (gt : Int) + (ln : Int)) = false := by simp [c3]
       have hyes : Hid (Mod.okP (l.sh t) (G t) = true) := by
        show _ = _
        rw [(unhide HOK).2, decide_eq_true (show la ≤ 1073741824 by omega), decide_eq_true (show la = gt + ln by omega)]
        rfl
       clear hbad c3
       go_quiet (first | (go_at_call 143; exact Calls.quiet_of_same (unhide (HLen _))))
       go_wp2
       refine ⟨⟨t + 1, by omega, by go_num, (unhide HB).trans (below_drewN (Below.refl _ _) _ |>.mono (unhide HB).size), fun k hk => ?_⟩, by simp [intOf]; omega⟩
       by_cases e : k = t
       ·rw [e]; exact unhide hyes
       ·exact (unhide HOK).1 k (by omega)
      ·have c3' : ((la : Int) != (gt : Int) + (ln : Int)) = true := by simp; omega
       have hno := (unhide hbad) (by rw [(unhide HOK).2, decide_eq_false (show ¬ la = gt + ln by omega)]; simp)
       have HNO := hide hno
       clear hno hbad HOK c3
       go_quiet (first | (go_at_call 143; exact Calls.quiet_of_same (unhide (HLen _))))
       go_wp2
       go_ret
       refine ⟨ret_b (by rw [unhide HNO]; rfl), ?_, fun l2 h => ?_⟩
       ·obtain ⟨_, _, _, _, _, F, _⟩ := unhide HL
        exact F.trans (far_below (E := fun _ => False) ((unhide HB).trans (below_drewN (Below.refl _ _) _ |>.mono (unhide HB).size))) (fun _ _ h => h.elim)
       ·rw [unhide HNO] at h
        cases h
    ·have e3 : t = 3 := by omega
     subst e3
     have hres : Mod.ldRes G rs = some l := by
      unfold Mod.ldRes
      rw [(unhide HALL).1]
      simp only
      rw [if_pos ⟨hok 0 (by omega), hok 1 (by omega), hok 2 (by omega)⟩]
     have HRES := hide hres
     have HLL := hide ((unhide HL).below hb)
     clear hres hok hb HL
     go_wp2
     go_ret
     refine ⟨ret_b (by rw [unhide HRES]; rfl), ?_, fun l2 h => ?_⟩
     ·obtain ⟨_, _, _, _, _, F, _⟩ := unhide HLL
      exact F
     ·rw [unhide HRES] at h
      cases h
      exact unhide HLL
end Go.Proofs.YtamafdcnbcoegaaGreat
namespace Go.Proofs.YtamafdcnbcoegaaGreat
open Go.RowKit
def newAgN (s a b d : Nat) (rv : Value) : Array Value := #[ptrTo s, .int .i64 a, .int .i64 b, .int .i64 d,
 .slice none 0 0, .map none, .slice none 0 0, .map none, .slice none 0 0, .map none, .slice none 0 0, .map none, .slice none 0 0, .map none, .slice none 0 0, .map none, .slice none 0 0, .map none, .slice none 0 0, .map none, .slice none 0 0, .map none,
 .slice none 0 0, .int .i64 0, .bool false, .bool false, rv]
theorem paAt_ld {w x : World} {p s dp : Nat} {g : Nat → Nat} {l : Mod.Ld} {dlv duv rv : Value} {st : Mod.Stv} (h : AgLd w x p s g l) (hs : StAt x s dp st dlv duv) (hl : st.dk.bytes.length = 1664) (hn : ∀ k, StU s dp dlv duv k → k ≠ p)
  {y : World} (hy : y = x.setCell ⟨p, 26, none⟩ rv) {R : Obj} (hr : RowO (y.alloc R) 183 2 rv 3 (agRules p)) :
  ∃ c, PaAt (y.alloc R) p g 0 false false l.free (shOf l) st c ∧ (∀ k, PaU p c k → k = p ∨ w.heap.size ≤ k ∨ StU s dp dlv duv k ∨ rv.ownBlock = some k) := by
 obtain ⟨arr, nv, mv, fv, K, F, N⟩ := h
 subst hy
 have hset := far_set x p 26 rv
 have hba : Below (x.setCell ⟨p, 26, none⟩ rv).heap.size (x.setCell ⟨p, 26, none⟩ rv) ((x.setCell ⟨p, 26, none⟩ rv).alloc R) := (Below.refl _ _).alloc (Nat.le_refl _) _
 have hF2 : Far (fun k => k = p) x ((x.setCell ⟨p, 26, none⟩ rv).alloc R) := hset.trans (far_below (E := fun _ => False) hba) (fun _ _ h => h.elim)
 have hget : ∀ j, j ≠ 26 → (arr.setIfInBounds 26 rv)[j]? = arr[j]? := fun j hj => Array.getElem?_setIfInBounds_ne (fun e => hj e.symm)
 refine ⟨⟨arr.setIfInBounds 26 rv, s, dp, nv, mv, fv, rv, dlv, duv⟩, ⟨⟨?_, by simpa using K.sz, ?_, ?_, ?_, ?_, ?_, ?_, ?_, ?_, ?_, ?_, ?_, K.apf, K.aps⟩, ?_, hr, hl⟩, ?_⟩
 ·exact (hba.block p (by simp; exact lt_of_block K.blk)).trans (blk_set K.blk)
 ·rw [hget _ (by omega)]; exact K.a0
 ·intro i hi; rw [hget _ (by omega)]; exact K.ag i hi
 ·intro i hi; rw [hget _ (by omega)]; exact K.an i hi
 ·intro i hi; rw [hget _ (by omega)]; exact K.am i hi
 ·rw [hget _ (by omega)]; exact K.af
 ·rw [hget _ (by omega)]; exact K.at'
 ·rw [hget _ (by omega)]; exact K.aw
 ·rw [hget _ (by omega)]; exact K.ae
 ·have := K.sz
  simp [this]
 ·exact K.fr.far hF2 (fun g hg e => K.fr.ne K.blk (by decide) (by rw [hg, e]))
 ·intro i hi
  exact (K.shs i hi).far hF2 (fun k hk e => (K.shs i hi).ne K.blk (by decide) (by rw [← e]; exact hk))
 ·exact hs.far hF2 (fun k hk e => hn k hk e)
 ·rintro k (h | h | h)
  ·rcases N k h with h | h
   ·exact .inl h
   ·exact .inr (.inl h)
  ·exact .inr (.inr (.inl h))
  ·exact .inr (.inr (.inr h))
set_option maxRecDepth 100000 in
set_option maxHeartbeats 8000000 in
theorem agOpen_some (w : World) (v : Value) (L : List UInt8) (hat : BytesAt w v L) (hL : L.length = 1664) {h : Mod.Hd} {at' : Nat} {rs : List Mod.Rc} (ho : Mod.openSt L = some (h, at', rs)) :
  Calls Tryz.prog 64 #[v] w fun r w' => Mod.ldRes h.num rs = none ∧ r = .returned (.tuple #[.pointer none, .int .i64 2]) ∧ Below w.heap.size w w' ∨
   ∃ l p c, Mod.ldRes h.num rs = some l ∧ r = .returned (.tuple #[ptrTo p, .int .i64 0]) ∧ PaAt w' p h.num 0 false false l.free (shOf l) (newStv L h at') c ∧ Below w.heap.size w w' ∧ ∀ k, PaU p c k → w.heap.size ≤ k := by
 have hSO := storeOpen_yes w v L 26 hat (by omega) (by omega) (by omega) ho
 rw [newStv_eq] at hSO
 obtain ⟨hne, hrf⟩ := Mod.openSt_some ho
 have hfit := rs_fits hrf
 have hrl : rs.length = 24 := by
  have := (Mod.recsFrom_some _ _ hrf).1
  rw [this, hL]
 obtain ⟨_, hok, hhd, _⟩ := Mod.newest_some hne
 have hsm := Mod.headIs_small hok
 rw [← hhd] at hsm
 have hnum : ∀ i, i < 3 → h.num i ≤ 2147483647 := fun i _ => by
  unfold Mod.Hd.num
  split
  ·omega
  ·split <;> omega
 have hlen : (newStv L h at').dk.bytes.length = 1664 := by
  have := (Mod.opened_ok hne (m := 26) (by omega) (by omega)).len
  exact this
 obtain ⟨ad, cap, rfl, hl1, hl2, _⟩ := hat
 obtain ⟨n, hn⟩ : ∃ n, n = L.length := ⟨_, rfl⟩
 rw [← hn] at hL hl1 hl2 hSO ⊢
 subst hL
 generalize newStv L h at' = st at *
 have e0 : h.num 0 = h.a := rfl
 have e1 : h.num 1 = h.b := rfl
 have e2 : h.num 2 = h.d := rfl
 rw [← e0, ← e1, ← e2] at hSO
 generalize h.num = G at *
 have HSO := hide hSO
 have HH := hide (And.intro hfit (And.intro hrl (And.intro hlen hnum)))
 clear hn ho hne hrf hok hhd hsm hSO hfit hrl hlen e0 e1 e2 hnum
 obtain ⟨res, hres⟩ : ∃ res, res = Mod.ldRes G rs := ⟨_, rfl⟩
 rw [← hres]
 obtain ⟨na, hna⟩ : ∃ na, na = G 0 := ⟨_, rfl⟩
 obtain ⟨nb, hnb⟩ : ∃ nb, nb = G 1 := ⟨_, rfl⟩
 obtain ⟨nd, hnd⟩ : ∃ nd, nd = G 2 := ⟨_, rfl⟩
 rw [← hna, ← hnb, ← hnd] at HSO
 have HG := hide (And.intro hna (And.intro hnb hnd))
 clear hna hnb hnd
 unfold ptrTo at *
 go_enter Tryz.func64, Tryz.ntmps64
 go_upto_region 7 with (go_at_call 102; refine (unhide HSO).mono ?_; rintro r y ⟨s, dp, lv, uv, rv, rfl, hST, hSU, hrow, hb⟩; obtain ⟨ra, rc, rfl, _, _, hra⟩ := (RowO.of_own (ownsRow_monoB hrow (Nat.zero_le _))).shape)
 obtain ⟨gr, og, rfl, _⟩ := hra (by omega)
 have hog : og = 0 := by
  rcases hrow with ⟨_, ⟨h, _⟩ | ⟨g', cap', cur', h, _⟩⟩
  ·cases h
  ·injection h with h; injection h with h; injection h
 subst hog
 clear hra
 obtain ⟨g5, hg5⟩ : ∃ g5, g5 = y.heap.size := ⟨_, rfl⟩
 have HG5 := hide hg5
 rw [← hg5]
 have hgw : w.heap.size ≤ g5 := by have := hb.size; omega
 clear hg5
 refine wp_world (fun x => x.heap[g5]? = some (.cells #[.int .i64 na, .int .i64 nb, .int .i64 nd, .slice (some ⟨gr, 0, none⟩) 24 rc] 187 (0, 0)) ∧ x.heap[g5 + 1]? = some (.cells (newAgN s na nb nd (.slice none 0 0)) 151 (0, 0)) ∧ Below g5 y x) ?_ ?_
 ·rw [unhide HG5]
  exact alloc2 _ _ _
 rintro x ⟨h5, h6, hbx⟩
 have hxx := lt_of_block h6
 have y3 := blk_cell (i := 3) h5
 simp at y3
 have hrx := ownsRow_keepB (ownsRow_monoB hrow (Nat.zero_le _)) (fun g hg => by have := (World.ownsRow.lt hrow g hg).2; exact hbx.block g (by rw [unhide HG5]; exact this))
 have hSTx := hide (hST.far (far_below (E := fun _ => False) (by rw [← unhide HG5]; exact hbx)) (fun _ _ h => h))
 have HSU := hide hSU
 have HB := hide (hb.trans (hbx.mono hgw))
 have H6 := hide h6
 have hnew : AgLd x x (g5 + 1) s G Mod.ld0 := agLd_new h6 (by rw [← (unhide HG).1, ← (unhide HG).2.1, ← (unhide HG).2.2]; rfl)
 have hLD := agLoad_any hnew hrx (unhide HH).2.1 (by omega) (unhide HH).1 (unhide HH).2.2.2
 rw [← hres] at hLD
 have HLD := hide hLD
 have HRES := hide hres
 clear hST hSU hrow hrx hb hbx h5 h6 HG5 hnew hLD hres
 have hnS : ¬ StU s dp lv uv (g5 + 1) := by
  rintro (h | h)
  ·have h1 := (unhide hSTx).blk
   rw [← h, unhide H6] at h1
   injection h1 with h1
   injection h1 with _ h1 _
   exact absurd h1 (by decide)
  ·exact dk_ne (unhide hSTx).dk (unhide H6) (by decide) (by decide) (by decide) h
 unfold ptrTo at HLD
 cases res with
 | none =>
  go_wp2_with (go_at_call 103; refine (unhide HLD).mono ?_; rintro r z ⟨rfl, hF, _⟩; replace hF := hide hF)
  go_ret2
  have hFw : Far (fun k => k = g5 + 1) w z := (far_below (E := fun k => k = g5 + 1) (unhide HB)).trans (unhide hF) (fun _ _ h => h)
  first | exact .inl ⟨rfl, rfl, hFw.below (Nat.le_refl _) (fun k hk h => by omega)⟩ | exact ⟨rfl, hFw.below (Nat.le_refl _) (fun k hk h => by omega)⟩ | exact .inl ⟨rfl, hFw.below (Nat.le_refl _) (fun k hk h => by omega)⟩
 | some l =>
  go_upto_region 9 with (go_at_call 103; refine (unhide HLD).mono ?_; rintro r z ⟨rfl, hF, hl⟩; have hL := hl l rfl; clear hl)
  have hSx' := (unhide hSTx).far hF (fun k hk e => hnS (by rw [← e]; exact hk))
  have hFw : Far (fun k => k = g5 + 1) w z := (far_below (E := fun k => k = g5 + 1) (unhide HB)).trans hF (fun _ _ h => h)
  have hbw : Below w.heap.size w z := hFw.below (Nat.le_refl _) (fun k hk h => by omega)
  have HLL := hide (And.intro hL (And.intro hSx' hbw))
  obtain ⟨arr, nv, mv, fv, K, _, _⟩ := hL
  have hpz : g5 + 1 < z.heap.size := lt_of_block K.blk
  have q26 : z.cell? ⟨g5 + 1, 26, none⟩ = some (.slice none 0 0) := by rw [blk_cell K.blk]; exact K.ar
  have hca : ∀ o, (z.alloc o).cell? ⟨g5 + 1, 26, none⟩ = some (.slice none 0 0) := fun o => (World.cell?_alloc_lt z _ ⟨g5 + 1, 26, none⟩ hpz).trans q26
  have hfa : ∀ o, (z.alloc o).frozen? ⟨g5 + 1, 26, none⟩ = false := fun o => blk_free (i := 26) ((hao _ _ hpz).trans K.blk)
  have hzg : ¬ g5 + 1 = z.heap.size := by omega
  clear q26 K hF hFw hbw hSx' y3 HLD
  go_wp2
  go_ret2
  obtain ⟨hL, hS, hbw⟩ := unhide HLL
  obtain ⟨R, hR⟩ : ∃ R, R = Obj.cells (agRules (g5 + 1)).toArray 183 (0, 0) := ⟨_, rfl⟩
  obtain ⟨z2, hz2⟩ : ∃ z2, z2 = z.setCell ⟨g5 + 1, 26, none⟩ (.slice (some ⟨z.heap.size, 0, none⟩) 3 3) := ⟨_, rfl⟩
  have hsz2 : z2.heap.size = z.heap.size := by rw [hz2, World.size_setCell]
  have hr2 : RowO (z2.alloc R) 183 2 (.slice (some ⟨z.heap.size, 0, none⟩) 3 3) 3 (agRules (g5 + 1)) := by
   refine ⟨by simp [agRules], .inr ⟨z.heap.size, 0, 3, (agRules (g5 + 1)).toArray, rfl, ?_, by omega, by unfold maxLen; omega, by simp [agRules], by simp [agRules]⟩⟩
   rw [← hsz2, heap_alloc_new, hR]
  obtain ⟨c, hPK, hPU⟩ := paAt_ld hL hS (unhide HH).2.2.1 (fun k hk e => hnS (by rw [← e]; exact hk)) hz2 hr2
  have hR2 : R = Obj.cells #[.int .i64 2, .func (.func 104) #[.pointer (some ⟨g5 + 1, 0, none⟩)] #[], .int .i64 4, .func (.func 105) #[.pointer (some ⟨g5 + 1, 0, none⟩)] #[], .int .i64 5, .func (.func 106) #[.pointer (some ⟨g5 + 1, 0, none⟩)] #[]] 183 (0, 0) := by rw [hR]; rfl
  subst hR2
  subst hz2
  have hwx := (unhide HB).size
  have hfin : ∀ z3, z3 = ((z.setCell ⟨g5 + 1, 26, none⟩ (.slice (some ⟨z.heap.size, 0, none⟩) 3 3)).alloc (.cells #[.int .i64 2, .func (.func 104) #[.pointer (some ⟨g5 + 1, 0, none⟩)] #[], .int .i64 4, .func (.func 105) #[.pointer (some ⟨g5 + 1, 0, none⟩)] #[], .int .i64 5, .func (.func 106) #[.pointer (some ⟨g5 + 1, 0, none⟩)] #[]] 183 (0, 0))) → Below w.heap.size w z3 ∧ ∀ k, PaU (g5 + 1) c k → w.heap.size ≤ k := by
   rintro _ rfl
   refine ⟨(hbw.setCell (p := ⟨g5 + 1, 26, none⟩) (by show w.heap.size ≤ g5 + 1; omega) _).alloc (by rw [World.size_setCell]; exact hbw.size) _, fun k hk => ?_⟩
   rcases hPU k hk with h | h | h | h
   ·omega
   ·omega
   ·exact (unhide HSU) k h
   ·have h2 : some z.heap.size = some k := h
    injection h2 with h2
    have := hbw.size
    omega
  obtain ⟨f1, f2⟩ := hfin _ rfl
  first | exact .inr ⟨l, g5 + 1, c, rfl, rfl, hPK, f1, f2⟩ | exact ⟨l, g5 + 1, c, rfl, rfl, hPK, f1, f2⟩
end Go.Proofs.YtamafdcnbcoegaaGreat
namespace Go.Proofs.YtamafdcnbcoegaaGreat
open Go.RowKit
section
variable {w : World} {p : Nat} {g : Nat → Nat} {tk : Nat} {wel fen : Bool} {free : List Nat} {sh : Nat → List (Nat × Value)} {st : Mod.Stv} {c : Av} {a : Mod.Ag} {pl : Nat → List Nat}
end
theorem onAg_opened {L : List UInt8} {hd : Mod.Hd} {at' : Nat} {rs : List Mod.Rc} {l : Mod.Ld} (ho : Mod.openSt L = some (hd, at', rs)) (hl : Mod.ldAll hd.num rs 0 Mod.ld0 = some l) (hk : ∀ i, i < 3 → Mod.okP (l.sh i) (hd.num i) = true) (hlen : L.length = 1664) :
  OnAg (Mod.agOf hd.o hd.num l) (hd.o + 1) hd.num l.free (shOf l) (Mod.plOf l) := by
 obtain ⟨h1, P, h3⟩ := Mod.agDisk_opened ho hl hk hlen
 have hbs : ∀ i, i < 3 → ((Mod.agOf hd.o hd.num l).fl i).base = hd.num i := fun i hi => by unfold Mod.agOf; simp only; rw [if_pos hi]
 have hkt : ∀ i, i < 3 → ((Mod.agOf hd.o hd.num l).fl i).kept = (l.sh i).map fun e => (e.2.1, 0) := fun i hi => by unfold Mod.agOf; simp only; rw [if_pos hi]
 have hhd : ∀ i, i < 3 → ((Mod.agOf hd.o hd.num l).fl i).held = [] := fun i hi => by unfold Mod.agOf; simp only; rw [if_pos hi]
 have hsh1 : ∀ i, shOf l (i * 3 + 1) = [] := fun i => by unfold shOf; rw [if_neg (by omega)]
 have hsh2 : ∀ i, shOf l (i * 3 + 2) = [] := fun i => by unfold shOf; rw [if_neg (by omega)]
 refine ⟨rfl, fun i hi => (hbs i hi).symm, P.pn, fun i hi => ?_, fun i hi n => ?_, fun i hi => ?_, fun i hi n => ?_, fun i hi => ?_, fun i hi => ?_, P.nd, P.lt, P.sum⟩
 ·rw [shOf_kept, keptL_toV, hbs i hi, hkt i hi, h3 i hi]
 ·rw [hsh1]
  unfold sentF
  rw [hkt i hi, List.getElem?_map]
  show none = _
  split
  ·rfl
  ·cases (l.sh i)[n - ((Mod.agOf hd.o hd.num l).fl i).base - 1]? with
   | none => rfl
   | some e => rfl
 ·rw [hsh1]; exact fun x hx => by cases hx
 ·rw [hsh2, hhd i hi]; rfl
 ·rw [hsh2]; exact fun x hx => by cases hx
 ·rw [hsh2]; simp
end Go.Proofs.YtamafdcnbcoegaaGreat
namespace Go.Proofs.YtamafdcnbcoegaaGreat
open Go.RowKit
def CyAt (op ct n : Nat) (w : World) (v : Nat) (a : Mod.Ag) (U : Nat → Prop) : Prop :=
 ∃ p g free sh pl st c, w.heap[v]? = some (.cells #[ptrTo p] 90 (0, 0)) ∧ PaAt w p g a.ticks a.welcome a.fenced free sh st c ∧ AlvA op ct n st a free pl ∧ OnAg a st.opening g free sh pl ∧ U = fun k => k = v ∨ PaU p c k
section
variable {op ct n N : Nat} {w w' : World} {v : Nat} {a : Mod.Ag} {U : Nat → Prop}
theorem cyAt_lt (h : CyAt op ct n w v a U) : ∀ k, U k → k < w.heap.size := by
 obtain ⟨p, g, free, sh, pl, st, c, hb, H, _, _, rfl⟩ := h
 rintro k (rfl | hk)
 ·exact lt_of_block hb
 ·exact H.lt k hk
theorem cyAt_far {E : Nat → Prop} (h : CyAt op ct n w v a U) (hf : Far E w w') (hE : ∀ k, U k → ¬ E k) : CyAt op ct n w' v a U := by
 obtain ⟨p, g, free, sh, pl, st, c, hb, H, h1, h2, rfl⟩ := h
 exact ⟨p, g, free, sh, pl, st, c, hf.blk hb (hE v (.inl rfl)), H.far hf (fun k hk => hE k (.inr hk)), h1, h2, rfl⟩
theorem cyAt_plain (h : CyAt op ct 0 w v a U) : CaAt w v a U := by
 obtain ⟨p, g, free, sh, pl, st, c, hb, H, h1, h2, rfl⟩ := h
 exact ⟨p, g, free, sh, pl, st, c, hb, H, h1.sound, h2, rfl⟩
theorem cyAt_is {p : Nat} {c : Av} {z : World} {a' : Mod.Ag} (hb : w.heap[v]? = some (.cells #[ptrTo p] 90 (0, 0))) (hnv : ¬ PaU p c v) (h : AgIs2 op ct n w z p a' c) :
  ∃ U', CyAt op ct n z v a' U' ∧ Far (fun k => k = v ∨ PaU p c k) w z ∧ ∀ k, U' k → (k = v ∨ PaU p c k) ∨ w.heap.size ≤ k := by
 obtain ⟨g, free, sh, pl, st, ⟨c', K, F', Nn, s1, s2⟩, hs, O⟩ := h
 refine ⟨_, ⟨p, g, free, sh, pl, st, c', F'.blk hb hnv, K, hs, O, rfl⟩, F'.mono (fun _ _ h => .inr h), ?_⟩
 rintro k (rfl | hk)
 ·exact .inl (.inl rfl)
 ·exact (Nn k hk).imp .inr id
theorem cySubmit (i : Int) (s : ByteArray) (h : CyAt op ct n w v a U) (G : AgGood N a) (hN : N < 1000000000) (hct : ct + 1000 < 18446744073709551616) (hn : n ≠ 1) :
  Calls Tryz.prog 21 #[ptrTo v, .int .i64 i, .string s] w fun r w' =>
   ∃ U' n', r = .returned (.int .i64 (a.refuses i s.size)) ∧ (n = 0 → n' = 0) ∧ CyAt op (ct + 1) n' w' v (agSubmits a i s) U' ∧ Far U w w' ∧ ∀ k, U' k → U k ∨ w.heap.size ≤ k := by
 obtain ⟨p, g, free, sh, pl, st, c, hb, H, hs, O, rfl⟩ := h
 have c0 : w.cell? ⟨v, 0, none⟩ = some (ptrTo p) := blk_cell (i := 0) hb
 have hA : Calls Tryz.prog 52 #[ptrTo p, .int .i64 i, .string s] w fun r z => r = .returned (.int .i64 (a.refuses i s.size)) ∧ ∃ n', (n = 0 → n' = 0) ∧ AgIs2 op (ct + 1) n' w z p (agSubmits a i s) c := by
  unfold agSubmits
  by_cases h0 : a.refuses i s.size = 0
  ·rw [if_pos h0]
   obtain ⟨⟨h1, h2⟩, h3, h4⟩ := refuses_0 h0
   obtain ⟨m, rfl⟩ := Int.eq_ofNat_of_zero_le h1
   refine (agSubmit_ok2 H hs hct hn O (i := m) (by omega) s h3 h4 (by have := G.sum m (by omega); omega)).mono ?_
   rintro r z ⟨rfl, h⟩
   exact ⟨by rw [h0], n - 1, by omega, h⟩
  ·rw [if_neg h0]
   refine (agSubmit_no2 H hs.dead O i s h0).mono ?_
   rintro r z ⟨rfl, rfl⟩
   exact ⟨rfl, n, id, g, free, sh, pl, st, paStep_refl H, ⟨hs.dead, hs.arm, hs.op, Nat.le_succ_of_le hs.ct, hs.dk⟩, O⟩
 have HA := hide hA
 have HB := hide (And.intro hb (ca_not H hb))
 generalize agSubmits a i s = a2 at *
 generalize a.refuses i s.size = e at *
 clear H O hs hb hA
 unfold ptrTo at *
 go_enter Tryz.func21, Tryz.ntmps21
 go_wp2_with (go_at_call 52; refine (unhide HA).mono ?_; rintro r y ⟨rfl, n', k0, k1⟩; replace k1 := hide k1; replace k0 := hide k0)
 go_ret
 obtain ⟨U', h1, h2, h3⟩ := cyAt_is (unhide HB).1 (unhide HB).2 (unhide k1)
 exact ⟨U', n', rfl, unhide k0, h1, h2, h3⟩
theorem cyImg (h : CyAt op ct n w v a U) : ∃ (L : List UInt8) (c2 hd : Nat) (free : List Nat) (pl : Nat → List Nat), Mod.AgDisk L op c2 hd a free pl ∧ Mod.Places a free pl ∧ ∀ x, Below w.heap.size w x → ∀ keep : Int,
  Calls Tryz.prog 29 #[ptrTo v, .int .u64 keep] x fun r y => ∃ v', r = .returned v' ∧ Owns x.heap.size y v' L ∧ Below x.heap.size x y := by
 obtain ⟨p, g, free, sh, pl, st, c, hb, H, hs, O, rfl⟩ := h
 refine ⟨st.dk.bytes, st.count, st.head, free, pl, by rw [← hs.op]; exact hs.dk, O.places, fun x hx keep => ?_⟩
 exact caImageOf ((hx.block _ (lt_of_block hb)).trans hb) (H.far (E := fun _ => False) (far_below hx) (fun _ _ e => e)) keep
end
theorem ldRes_of {g : Nat → Nat} {rs : List Mod.Rc} {l : Mod.Ld} (h1 : Mod.ldAll g rs 0 Mod.ld0 = some l) (h2 : ∀ i, i < 3 → Mod.okP (l.sh i) (g i) = true) : Mod.ldRes g rs = some l := by
 unfold Mod.ldRes
 rw [h1]
 simp only
 rw [if_pos ⟨h2 0 (by omega), h2 1 (by omega), h2 2 (by omega)⟩]
set_option maxHeartbeats 1000000 in
theorem cyOpen_of {w : World} (bs : Value) (L : List UInt8) (hat : BytesAt w bs L) (hlen : L.length = 1664) {h : Mod.Hd} {at' : Nat} {rs : List Mod.Rc} {l : Mod.Ld} (ho : Mod.openSt L = some (h, at', rs)) (hl : Mod.ldAll h.num rs 0 Mod.ld0 = some l) (hk : ∀ i, i < 3 → Mod.okP (l.sh i) (h.num i) = true) :
  Calls Tryz.prog 37 #[bs] w fun r w' =>
   ∃ v U, r = .returned (.tuple #[ptrTo v, .int .i64 0]) ∧ CyAt (h.o + 1) 1 0 w' v (Mod.agOf h.o h.num l) U ∧ Below w.heap.size w w' ∧ ∀ k, U k → w.heap.size ≤ k := by
 have HD : Hid (Calls Tryz.prog 64 #[bs] w fun r w' => ∃ p c, r = .returned (.tuple #[ptrTo p, .int .i64 0]) ∧ PaAt w' p h.num 0 false false l.free (shOf l) (newStv L h at') c ∧ Below w.heap.size w w' ∧ ∀ k, PaU p c k → w.heap.size ≤ k) := by
  refine (agOpen_some w bs L hat hlen ho).mono ?_
  rintro r y (⟨h1, _⟩ | ⟨l2, p, c, e1, rfl, k1, k2, k3⟩)
  ·rw [ldRes_of hl hk] at h1; cases h1
  ·rw [ldRes_of hl hk] at e1
   injection e1 with e1
   subst e1
   exact ⟨p, c, rfl, k1, k2, k3⟩
 have HA : Hid (AlvA (h.o + 1) 1 0 (newStv L h at') (Mod.agOf h.o h.num l) l.free (Mod.plOf l)) := ⟨rfl, rfl, rfl, Nat.le_refl _, (Mod.agDisk_opened ho hl hk hlen).1⟩
 have HO : Hid (OnAg (Mod.agOf h.o h.num l) (newStv L h at').opening h.num l.free (shOf l) (Mod.plOf l)) := onAg_opened ho hl hk hlen
 have ht : (Mod.agOf h.o h.num l).ticks = 0 := rfl
 have hw : (Mod.agOf h.o h.num l).welcome = false := rfl
 have hf : (Mod.agOf h.o h.num l).fenced = false := rfl
 clear hat ho hlen hl hk
 generalize Mod.agOf h.o h.num l = a at *
 generalize newStv L h at' = st at HD HA HO
 generalize h.o + 1 = op1 at HA ⊢
 generalize h.num = gn at HD HO
 generalize shOf l = shl at HD HO
 generalize Mod.plOf l = pll at HA HO
 generalize l.free = lf at HD HA HO
 have HF := hide (And.intro ht (And.intro hw hf))
 clear ht hw hf
 unfold ptrTo at *
 go_enter Tryz.func37, Tryz.ntmps37
 go_wp2_with (go_at_call 64; refine (unhide HD).mono ?_; rintro r y ⟨p, c, rfl, K, hb, hU⟩; replace K := hide K; replace hb := hide hb; replace hU := hide hU)
 go_ret2
 have hb := unhide hb
 obtain ⟨ht, hw, hf⟩ := unhide HF
 refine ⟨y.heap.size, _, rfl, ⟨p, _, _, _, _, st, c, heap_alloc_new _ _, ?_, unhide HA, unhide HO, rfl⟩, hb.alloc hb.size _, ?_⟩
 ·rw [ht, hw, hf]
  exact (unhide K).below ((Below.refl _ _).alloc (Nat.le_refl _) _)
 ·rintro k (rfl | hk)
  ·exact hb.size
  ·exact (unhide hU) k hk
theorem cyOpen {w : World} (bs : Value) (L : List UInt8) {op c2 hd : Nat} {a : Mod.Ag} {free : List Nat} {pl : Nat → List Nat} (hat : BytesAt w bs L) (D : Mod.AgDisk L op c2 hd a free pl) (P : Mod.Places a free pl) (he : a.epoch = op) (hop : op ≤ 1073741824) (hsum : ∀ i, i < 3 → (a.fl i).base + (a.fl i).kept.length ≤ 1073741824) :
  Calls Tryz.prog 37 #[bs] w fun r w' => ∃ v U, r = .returned (.tuple #[ptrTo v, .int .i64 0]) ∧ CyAt (op + 1) 1 0 w' v (Mod.reop a) U ∧ Below w.heap.size w w' ∧ ∀ k, U k → w.heap.size ≤ k := by
 obtain ⟨h', at', rs, l, o1, o2, o3, o4⟩ := Mod.agLoad_some (D.loads P he hop hsum)
 have hoo : h'.o = op := by
  have := congrArg Mod.Ag.epoch o4
  have h1 : (Mod.reop a).epoch = a.epoch + 1 := rfl
  have h2 : (Mod.agOf h'.o h'.num l).epoch = h'.o + 1 := rfl
  omega
 subst hoo
 rw [o4]
 exact cyOpen_of bs L hat D.ok.len o1 o2 o3
theorem zero_ld : Mod.ldAll Mod.hd0.num ((List.range (26 - 2)).map fun _ => Mod.rc0) 0 Mod.ld0 = some ⟨List.range 24, fun _ => []⟩ := by rfl
theorem zero_ag : Mod.agOf Mod.hd0.o Mod.hd0.num ⟨List.range 24, fun _ => []⟩ = { epoch := 1, ticks := 0, welcome := false, fenced := false, fl := fun _ => { base := 0, kept := [], held := [] } } := by
 unfold Mod.agOf
 congr 1
 funext i
 split
 ·have : Mod.hd0.num i = 0 := by
   unfold Mod.Hd.num
   repeat' split
   all_goals rfl
  rw [this]
  rfl
 ·rfl
theorem cyOpen_zero {w : World} (bs : Value) (hat : BytesAt w bs (List.replicate 1664 0)) :
  Calls Tryz.prog 37 #[bs] w fun r w' =>
   ∃ v U, r = .returned (.tuple #[ptrTo v, .int .i64 0]) ∧ CyAt 1 1 0 w' v { epoch := 1, ticks := 0, welcome := false, fenced := false, fl := fun _ => { base := 0, kept := [], held := [] } } U ∧ Below w.heap.size w w' ∧ ∀ k, U k → w.heap.size ≤ k := by
 have ho := Mod.openSt_nought 26 (by omega)
 rw [← zero_ag]
 exact cyOpen_of bs _ hat (by rw [List.length_replicate]) ho zero_ld (fun i _ => by
  have : Mod.hd0.num i = 0 := by
   unfold Mod.Hd.num
   repeat' split
   all_goals rfl
  show Mod.okP [] (Mod.hd0.num i) = true
  rw [this]
  rfl)
end Go.Proofs.YtamafdcnbcoegaaGreat
