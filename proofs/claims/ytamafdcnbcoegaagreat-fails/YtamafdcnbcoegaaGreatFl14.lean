/-
  Part 14 of a proof: K33, N1, T8, N2, N7, V6, N8, Q1, Z1, Z2, Q3, Z3, Z4, CodesProof, N9, Z5.
-/
import Derived.Deep.CutRange
import Derived.ProofKit
import Derived.SizedLaws
import Derived.OpenShut
import Derived.ShutString
import Derived.ChangeOld
import Derived.Lib.SmallJoins
import Derived.Deep.Slices
import Derived.Test.YtamafdcnbcoegaaGreatFl13
namespace Go.Proofs.YtamafdcnbcoegaaGreat
open Go.RowKit

theorem skDisk_opens {L : List UInt8} {op ct hd e : Nat} {lg : Nat → List ByteArray} (h : Mod.SkDisk L op ct hd e lg) (hop : op ≤ 1073741824) :
    ∃ (h' : Mod.Hd) (at' : Nat) (rs : List Mod.Rc), Mod.openSt L = some (h', at', rs) ∧ h'.o = op ∧ h'.a = e ∧ h'.b = 0 ∧ h'.d = 0 ∧ Mod.skLd rs 0 (fun _ => []) = some lg := by
  obtain ⟨hd', at', rs, o1, o2, o3, o4, o5, o6⟩ := Mod.skLoad_some (h.loads hop)
  obtain ⟨ord, p1, p2, p3, p4, p5⟩ := h.rcs
  obtain ⟨c, ho⟩ := h.ok.opens hop (fun x => ord.getD x Mod.rc0) (fun x hx => p5 x hx)
  have ho2 := ho
  rw [o1] at ho2
  injection ho2 with ho2
  injection ho2 with e1 _
  exact ⟨hd', at', rs, o1, by rw [e1], o4.symm, o2, o3, o6⟩
/-- Behind an opening. -/
theorem alv_opened {L : List UInt8} {h : Mod.Hd} {at' : Nat} {rs : List Mod.Rc} {lg : Nat → List ByteArray} (ho : Mod.openSt L = some (h, at', rs)) (hb : h.b = 0) (hd : h.d = 0) (hl : Mod.skLd rs 0 (fun _ => []) = some lg) (hlen : L.length = 7808) :
    Alv (h.o + 1) 1 0 (newStv L h at') h.a lg :=
  ⟨rfl, rfl, rfl, Nat.le_refl _, Mod.skDisk_opened (a := { epoch := h.a, logs := lg, held := [] }) ho hb hd hl hlen⟩
theorem skMore_nil (e : Nat) (lg : Nat → List ByteArray) : SkMore { epoch := e, logs := lg, held := [] } := ⟨fun h hh => by simp at hh, fun _ s _ b hb => by simp at hb⟩
set_option maxHeartbeats 1000000 in
theorem cxOpen_of {w : World} (bs : Value) (L : List UInt8) (hat : BytesAt w bs L) (hlen : L.length = 7808) {h : Mod.Hd} {at' : Nat} {rs : List Mod.Rc} {lg : Nat → List ByteArray} (ho : Mod.openSt L = some (h, at', rs)) (hb0 : h.b = 0) (hd0 : h.d = 0) (hl : Mod.skLd rs 0 (fun _ => []) = some lg) :
    Calls Tryz.prog 38 #[bs] w fun r w' =>
      ∃ v U, r = .returned (.tuple #[ptrTo v, .int .i64 0]) ∧ CxAt (h.o + 1) 1 0 w' v { epoch := h.a, logs := lg, held := [] } U ∧ Below w.heap.size w w' ∧ ∀ k, U k → w.heap.size ≤ k := by
  have HD : Hid (Calls Tryz.prog 65 #[bs] w fun r w' => ∃ p c, r = .returned (.tuple #[ptrTo p, .int .i64 0]) ∧ PkAt w' p h.a lg (fun _ => []) (newStv L h at') c ∧ Below w.heap.size w w' ∧ ∀ k, PkU p c k → w.heap.size ≤ k) := by
    refine (sinkOpen_some w bs L hat hlen ho).mono ?_
    rintro r y (⟨h1 | h1, _⟩ | ⟨_, _, lg2, p, c, e1, rfl, k1, k2, k3⟩)
    · exact absurd ⟨hb0, hd0⟩ h1
    · rw [hl] at h1; cases h1
    · rw [hl] at e1
      injection e1 with e1
      subst e1
      exact ⟨p, c, rfl, k1, k2, k3⟩
  have HA := hide (alv_opened ho hb0 hd0 hl hlen)
  clear hat ho hb0 hd0 hl hlen
  generalize newStv L h at' = st at HD HA
  generalize h.o + 1 = op1 at HA ⊢
  generalize h.a = ep at HD HA ⊢
  unfold ptrTo at *
  go_enter Tryz.func38, Tryz.ntmps38
  go_wp2_with (go_at_call 65; refine (unhide HD).mono ?_; rintro r y ⟨p, c, rfl, K, hb, hU⟩; replace K := hide K; replace hb := hide hb; replace hU := hide hU)
  go_ret2
  have hb := unhide hb
  refine ⟨y.heap.size, _, rfl, ⟨p, _, st, c, heap_alloc_new _ _, (unhide K).far (far_below (E := fun _ => False) ((Below.refl _ _).alloc (Nat.le_refl _) _)) (fun _ _ h => h), unhide HA, onSh_nil, skMore_nil _ _, rfl⟩, hb.alloc hb.size _, ?_⟩
  rintro k (rfl | hk)
  · exact hb.size
  · exact (unhide hU) k hk
theorem cxOpen {w : World} (bs : Value) (L : List UInt8) {op c2 hd e : Nat} {lg : Nat → List ByteArray} (hat : BytesAt w bs L) (hk : Mod.SkDisk L op c2 hd e lg) (hop : op ≤ 1073741824) :
    Calls Tryz.prog 38 #[bs] w fun r w' =>
      ∃ v U, r = .returned (.tuple #[ptrTo v, .int .i64 0]) ∧ CxAt (op + 1) 1 0 w' v { epoch := e, logs := lg, held := [] } U ∧ Below w.heap.size w w' ∧ ∀ k, U k → w.heap.size ≤ k := by
  obtain ⟨h', at', rs, o1, o2, o3, o4, o5, o6⟩ := skDisk_opens hk hop
  subst o2 o3
  exact cxOpen_of bs L hat hk.ok.len o1 o4 o5 o6
theorem cxOpen_zero {w : World} (bs : Value) (hat : BytesAt w bs (List.replicate 7808 0)) :
    Calls Tryz.prog 38 #[bs] w fun r w' =>
      ∃ v U, r = .returned (.tuple #[ptrTo v, .int .i64 0]) ∧ CxAt 1 1 0 w' v { epoch := 0, logs := fun _ => [], held := [] } U ∧ Below w.heap.size w w' ∧ ∀ k, U k → w.heap.size ≤ k := by
  have ho := Mod.openSt_nought 122 (by omega)
  refine cxOpen_of bs _ hat (by rw [List.length_replicate]) ho rfl rfl ?_
  have : ((List.range (122 - 2)).map fun _ => Mod.rc0) = List.replicate 120 Mod.rc0 := by rw [List.map_const']; simp
  rw [this]
  exact Mod.skLd_zero 120 0 _
/-- The program's sink. -/
def theSinkX : SinkX where
  At := CxAt
  Dd := CdAt
  lt := cxAt_lt
  far := cxAt_far
  ltD := cdAt_lt
  farD := cdAt_far
  ok := cxDeliver_ok
  bad := cxDeliver_bad
  dead := cdDeliver
  epoch := cxEpoch
  log := cxLog
  logD := cdLog
  arm := cxArm
  armD := cdArm
  img := cxImg
  imgD := cdImg
  opened := cxOpen
  zero := cxOpen_zero
end Go.Proofs.YtamafdcnbcoegaaGreat
namespace Go.Proofs.YtamafdcnbcoegaaGreat
open Go.RowKit

theorem skGood_says {a : Mod.Sk} (G : SkGood a) (l : List UInt8) : SkGood (skSays a l).2.1 := by
  unfold skSays
  cases hr : Wire.reads l
  · exact G
  · rw [if_pos rfl]
    have hp := hr
    unfold Wire.reads at hp
    rw [Bool.and_eq_true] at hp
    have hp2 := proper_small hp.2
    exact skGood_reply G _ _ _ _ _ (by have := hp2.2.2.1; omega) hp2.2.1.2
/-- Blocks below B and those of G are as they were. -/
def Same (B : Nat) (G : Nat → Prop) (x y : World) : Prop := Far (fun j => B ≤ j ∧ ¬ G j) x y
theorem Same.blk {B : Nat} {G : Nat → Prop} {x y : World} (h : Same B G x y) {k : Nat} (hk : k < x.heap.size) (hg : G k) : y.heap[k]? = x.heap[k]? := h.rest k hk (fun e => e.2 hg)
theorem Same.bel {B : Nat} {G : Nat → Prop} {x y : World} (h : Same B G x y) (hB : B ≤ x.heap.size) : Below B x y := Far.below h hB (fun k hk e => by omega)
section
end
end Go.Proofs.YtamafdcnbcoegaaGreat
namespace Go.Proofs.YtamafdcnbcoegaaGreat
open Go.RowKit

def pickN (c : Int) (n : Nat) : Nat := ((if c < 0 then -(c + 1) else c) % (n : Int)).toNat
theorem pickN_lt (c : Int) {n : Nat} (hn : 0 < n) : pickN c n < n := by
  unfold pickN
  have h1 := Int.emod_lt_of_pos (if c < 0 then -(c + 1) else c) (show (0 : Int) < n by omega)
  have h2 := Int.emod_nonneg (if c < 0 then -(c + 1) else c) (show (n : Int) ≠ 0 by omega)
  omega
end Go.Proofs.YtamafdcnbcoegaaGreat
namespace Go.Proofs.YtamafdcnbcoegaaGreat
open Go.RowKit

set_option maxRecDepth 100000 in
theorem keepPick_any (c : Int) (n : Nat) (w : World) (hc : -9223372036854775808 ≤ c ∧ c ≤ 9223372036854775807) (hn : 0 < n) (hn6 : n ≤ 100000000) :
    Calls Tryz.prog 22 #[.int .i64 c, .int .i64 n] w fun r w' => r = .returned (.int .i64 (pickN c n)) ∧ w' = w := by
  have hn0 : ¬ (n : Int) = 0 := by omega
  have hn1 : ¬ (n : Int) = -1 := by omega
  have hb : ((n : Int) == 0) = false := by simp; omega
  have HJ : Hid ((pickN c n : Int) = (if c < 0 then -(c + 1) else c) % (n : Int)) := by
    have h2 := Int.emod_nonneg (if c < 0 then -(c + 1) else c) hn0
    unfold pickN
    show _ = _
    omega
  generalize pickN c n = j at HJ
  obtain ⟨d, hd⟩ : ∃ d, d = if c < 0 then -(c + 1) else c := ⟨_, rfl⟩
  rw [← hd] at HJ
  have hd0 : 0 ≤ d ∧ d ≤ 9223372036854775807 := by rw [hd]; split <;> omega
  by_cases h : c < 0
  · rw [if_pos h] at hd
    have hw1 : IntKind.i64.wrap (c + 1) = c + 1 := by rw [IntKind.wrap_i64]; omega
    have hw2 : IntKind.i64.wrap (-(c + 1)) = d := by rw [IntKind.wrap_i64]; omega
    clear hd
    go_enter Tryz.func22, Tryz.ntmps22
    go_wp2
    go_ret
    exact ⟨ret_i (unhide HJ).symm, rfl⟩
  · rw [if_neg h] at hd
    subst hd
    go_enter Tryz.func22, Tryz.ntmps22
    go_wp2
    go_ret
    exact ⟨ret_i (unhide HJ).symm, rfl⟩

/-- A number's digits. -/
def digL (n : Nat) : List UInt8 := if n < 10 then [UInt8.ofNat (48 + n)] else digL (n / 10) ++ [UInt8.ofNat (48 + n % 10)]
def digB (n : Nat) : ByteArray := ⟨(digL n).toArray⟩
theorem digL_len : ∀ (k n : Nat), n < 10 ^ (k + 1) → (digL n).length ≤ k + 1
  | 0, n, h => by
    rw [digL, if_pos (by simpa using h)]
    simp
  | k + 1, n, h => by
    rw [digL]
    split
    · simp
    · have := digL_len k (n / 10) (by rw [Nat.pow_succ] at h; omega)
      simp
      omega
theorem digB_size {n : Nat} (h : n < 10000000000) : (digB n).size ≤ 10 := by
  have := digL_len 9 n (by omega)
  simpa [digB, ByteArray.size] using this
theorem digB_eq (n : Nat) : digB n = if n < 10 then ⟨#[UInt8.ofNat (48 + n % 10)]⟩ else digB (n / 10) ++ ⟨#[UInt8.ofNat (48 + n % 10)]⟩ := by
  unfold digB
  conv => lhs; rw [digL]
  split
  · rename_i h
    rw [Nat.mod_eq_of_lt h]
  · apply ByteArray.ext
    simp
set_option maxRecDepth 100000 in
set_option maxHeartbeats 1000000 in
theorem digits_any (n : Nat) (w : World) (hn : n ≤ 1000000000) : Calls Tryz.prog 23 #[.int .i64 n] w fun r y => r = .returned (.string (digB n)) ∧ Below w.heap.size w y := by
  have ih : ¬ n < 10 → ∀ x, Hid (Calls Tryz.prog 23 #[.int .i64 (n / 10 : Nat)] x fun r y => r = .returned (.string (digB (n / 10))) ∧ Below x.heap.size x y) := fun h x => digits_any (n / 10) x (by omega)
  have hconv : (convert 44 9 (.slice (some ⟨w.heap.size, 0, none⟩) 1 1)).run Tryz.prog (w.alloc (.cells #[.int .u8 (48 + (n : Int) % 10)] 5)) = .ok (.string ⟨#[UInt8.ofNat (48 + n % 10)]⟩) (w.alloc (.cells #[.int .u8 (48 + (n : Int) % 10)] 5)) :=
    conv_str (l := [UInt8.ofNat (48 + n % 10)]) (b := w.heap.size) (off := 0) (n := 1) (cap := 1) rfl (fun i hi => by
      obtain rfl : i = 0 := by omega
      rw [blk_cell (heap_alloc_new w _)]
      simp only [List.getD_cons_zero, UInt8.toNat_ofNat']
      have : ((48 + n % 10) % 2 ^ 8 : Nat) = 48 + n % 10 := by omega
      rw [this]
      simp)
  have hb := hide ((Below.refl w.heap.size w).alloc (Nat.le_refl _) (.cells #[.int .u8 (48 + (n : Int) % 10)] 5))
  have hd0 : Hid (digB n = if n < 10 then ⟨#[UInt8.ofNat (48 + n % 10)]⟩ else digB (n / 10) ++ ⟨#[UInt8.ofNat (48 + n % 10)]⟩) := digB_eq n
  obtain ⟨cc, hcc⟩ : ∃ cc, cc = UInt8.ofNat (48 + n % 10) := ⟨_, rfl⟩
  rw [← hcc] at hconv hd0
  clear hcc
  by_cases h : n < 10
  · have hi : (n : Int) < 10 := by omega
    have hd : Hid (digB n = ⟨#[cc]⟩) := (unhide hd0).trans (if_pos h)
    clear ih
    go_enter Tryz.func23, Tryz.ntmps23
    go_wp2
    go_ret
    exact ⟨by rw [unhide hd]; rfl, unhide hb⟩
  · have hi : ¬ (n : Int) < 10 := by omega
    have hd : Hid (digB n = digB (n / 10) ++ ⟨#[cc]⟩) := (unhide hd0).trans (if_neg h)
    clear hd0
    have ih := ih h
    have hdz : (digB (n / 10)).size ≤ 10 := digB_size (by omega)
    generalize digB (n / 10) = db at ih hd hdz
    have hdz2 : ¬ 9223372036854775807 < db.size + 1 := by omega
    obtain ⟨m, hm⟩ : ∃ m, m = n / 10 := ⟨_, rfl⟩
    rw [← hm] at ih
    have hq : (n : Int).tdiv 10 = (m : Int) := by rw [Int.tdiv_eq_ediv_of_nonneg (by omega)]; omega
    have hq2 : (n : Int) / 10 = (m : Int) := by omega
    have hw : IntKind.i64.wrap (m : Int) = (m : Int) := by rw [IntKind.wrap_i64]; omega
    clear hm
    go_enter Tryz.func23, Tryz.ntmps23
    go_wp2_with (go_at_call 23; refine (unhide (ih _)).mono ?_; rintro r y ⟨rfl, hy⟩; have HY := hide ((unhide hb).trans (hy.mono (unhide hb).size)); clear hy)
    go_ret
    exact ⟨by rw [unhide hd]; rfl, unhide HY⟩
  termination_by n
  decreasing_by omega

theorem str_eq_false {a b : ByteArray} (h : a ≠ b) : (a.toList == b.toList) = false := by
  rw [toList_data, toList_data]
  cases hc : (a.data.toList == b.data.toList) with
  | false => rfl
  | true =>
    rw [beq_iff_eq] at hc
    exact absurd (by cases a; cases b; simp at hc; rw [hc]) h
set_option maxRecDepth 100000 in
set_option maxHeartbeats 2000000 in
theorem keepSame_any (w : World) (v u : Value) (A B : List ByteArray) (hv : ListAt w v (strs A)) (hu : ListAt w u (strs B)) (hz : A.length ≤ 1000000000) :
    Calls Tryz.prog 33 #[v, u] w fun r y => r = .returned (.bool (decide (A = B))) ∧ ∃ q, y = w.drewN q := by
  obtain ⟨la, lc, hlv, hl1, hl2, hl3⟩ := hv
  obtain ⟨ma, mc, hmv, hm1, hm2, hm3⟩ := hu
  rw [strs_length] at hlv hl1 hl3 hmv hm1 hm3
  subst hlv hmv
  have HL3 := hide hl3
  have HM3 := hide hm3
  clear hl3 hm3
  by_cases hlen : A.length = B.length
  · rw [← hlen] at HM3 hm1 ⊢
    have hne : ((A.length : Int) != (A.length : Int)) = false := by simp
    go_enter Tryz.func33, Tryz.ntmps33
    go_wp2
    go_loopw [5] (fun i wr => ∃ k : Nat, k ≤ A.length ∧ i = .int .i64 k ∧ A.take k = B.take k ∧ ∃ q, wr = w.drewN q) (fun i _ => A.length - (intOf i).toNat)
    case atStart => exact ⟨0, by omega, rfl, rfl, 0, rfl⟩
    case round =>
      obtain ⟨k, hk, rfl, hAB, q, rfl⟩ := hrel
      by_cases hlt : k < A.length
      · have hltB : k < B.length := by omega
        obtain ⟨g, o, rfl, _, hc⟩ := (unhide HL3) (by omega)
        obtain ⟨g2, o2, rfl, _, hc2⟩ := (unhide HM3) (by omega)
        have hx : (strs A)[k]? = some (.string A[k]) := by simp [strs, hlt]
        have hx2 : (strs B)[k]? = some (.string B[k]) := by simp [strs, hltB]
        have y1 := (hc k hlt).trans hx
        have y2 := (hc2 k hlt).trans hx2
        have HAB := hide hAB
        have hak : Hid (A[k]? = some A[k]) := List.getElem?_eq_getElem hlt
        have hbk : Hid (B[k]? = some B[k]) := List.getElem?_eq_getElem hltB
        clear hc hc2 hx hx2 hAB
        generalize A[k] = ak at y1 hak
        generalize B[k] = bk at y2 hbk
        by_cases he : ak = bk
        · subst he
          have hee : (ak.toList == ak.toList) = true := beq_self_eq_true _
          go_wp2
          go_quiet (fail)
          go_wp2
          go_roundw
          case rel => exact ⟨k + 1, by omega, by go_num, by rw [List.take_add_one, List.take_add_one, unhide HAB, unhide hak, unhide hbk], q + nq, by simp⟩
          case measure => simp [intOf]; omega
        · have hee := str_eq_false he
          have hd : decide (A = B) = false := by
            rw [decide_eq_false_iff_not]
            intro e
            have h1 := unhide hak
            rw [e, unhide hbk] at h1
            injection h1 with h1
            exact he h1.symm
          go_wp2
          go_quiet (fail)
          go_wp2
          go_ret
          exact ⟨by rw [hd]; rfl, q + nq, by simp⟩
      · have hd : decide (A = B) = true := by
          rw [decide_eq_true_iff]
          rw [List.take_of_length_le (by omega), List.take_of_length_le (by omega)] at hAB
          exact hAB
        go_wp2
        go_ret
        exact ⟨by rw [hd]; rfl, q, rfl⟩
  · have hd : decide (A = B) = false := by
      rw [decide_eq_false_iff_not]
      intro e
      exact hlen (by rw [e])
    have hne : ((A.length : Int) != (B.length : Int)) = true := by simp; omega
    go_enter Tryz.func33, Tryz.ntmps33
    go_wp2
    go_ret
    exact ⟨by rw [hd]; rfl, 0, rfl⟩
end Go.Proofs.YtamafdcnbcoegaaGreat
namespace Go.Proofs.YtamafdcnbcoegaaGreat
open Go.RowKit
/-- The agent when so many records have been taken, of these streams. -/
def takeN (xs : Nat → Nat) : Nat → Mod.Ag
  | 0 => { epoch := 1, ticks := 0, welcome := false, fenced := false, fl := fun _ => { base := 0, kept := [], held := [] } }
  | i + 1 => (takeN xs i).submit (xs i) (digB i)
theorem room_submit (a : Mod.Ag) {s : Nat} (hs : s < 3) (b : ByteArray) : (a.submit s b).room = a.room + 1 := by
  have e : (a.submit s b).room + (a.fl s).kept.length = a.room + ((a.fl s).kept ++ [(b, 0)]).length := room_upd (a := a) hs { a.fl s with kept := (a.fl s).kept ++ [(b, 0)] }
  rw [List.length_append, List.length_singleton] at e
  omega
theorem takeN_room {xs : Nat → Nat} (hx : ∀ i, xs i < 3) : ∀ i, (takeN xs i).room = i
  | 0 => rfl
  | i + 1 => by rw [takeN, room_submit _ (hx i), takeN_room hx i]
theorem takeN_spool (xs : Nat → Nat) (i s : Nat) : (takeN xs (i + 1)).spool s = if s = xs i then (takeN xs i).spool s ++ [digB i] else (takeN xs i).spool s := by
  rw [takeN]
  unfold Mod.Ag.submit Mod.upd Mod.Ag.spool
  simp only
  split
  · rename_i e
    subst e
    simp
  · rfl
end Go.Proofs.YtamafdcnbcoegaaGreat
namespace Go.Proofs.YtamafdcnbcoegaaGreat
open Go.RowKit

theorem agGood_zero (n : Nat) : AgGood n ag0 := ⟨by simp [ag0], by simp [ag0], by simp [ag0], fun s hs x hx => by simp [ag0] at hx⟩

end Go.Proofs.YtamafdcnbcoegaaGreat
namespace Go.Proofs.YtamafdcnbcoegaaGreat
open Go.RowKit
section
theorem refuses_ok {a : Mod.Ag} {s n : Nat} (hs : s < 3) (hn : n ≤ 20) (hr : a.room < 24) : a.refuses s n = 0 := by
  unfold Mod.Ag.refuses
  rw [if_neg (by omega), if_neg (by omega), if_neg (by omega)]
theorem submits_ok {a : Mod.Ag} {s : Nat} {b : ByteArray} (hs : s < 3) (hn : b.size ≤ 20) (hr : a.room < 24) : agSubmits a s b = a.submit s b := by
  unfold agSubmits
  rw [if_pos (refuses_ok hs hn hr)]
  rfl
end
end Go.Proofs.YtamafdcnbcoegaaGreat
namespace Go.Proofs.YtamafdcnbcoegaaGreat
open Go.RowKit

/-- A small number's digits. -/
def dig (n : Nat) : ByteArray := if n < 10 then ⟨#[UInt8.ofNat (48 + n)]⟩ else ⟨#[UInt8.ofNat (48 + n / 10), UInt8.ofNat (48 + n % 10)]⟩
theorem digB_small {n : Nat} (h : n < 100) : digB n = dig n := by
  unfold digB dig
  rw [digL]
  split
  · rfl
  · rw [digL, if_pos (by omega)]
    rfl
theorem dig_size (n : Nat) : (dig n).size ≤ 20 := by
  unfold dig
  split
  · show 1 ≤ 20; omega
  · show 2 ≤ 20; omega
theorem skWr_le {a : Mod.Sk} (G : SkGood a) (k e : Int) (s q : Nat) (b : ByteArray) : skWr a k e s q b ≤ 120 := by
  unfold skWr hiW
  have := commits_room (a := a) 3 a.epoch s q b G.room
  repeat' split
  all_goals omega
end Go.Proofs.YtamafdcnbcoegaaGreat
namespace Go.Proofs.YtamafdcnbcoegaaGreat
open Go.RowKit

theorem says_gen (a : Mod.Sk) {s q : Nat} {b : ByteArray} (hp : Wire.proper 3 0 s q b = true) : skSays a (Wire.bytes 3 0 s q b.data.toList) = (0, skReply a 3 0 s q b) ∧ skW a (Wire.bytes 3 0 s q b.data.toList) = skWr a 3 0 s q b ∧ ∀ n, skBad a (Wire.bytes 3 0 s q b.data.toList) n = skBadR a 3 s q b n := by
  obtain ⟨h1, h2, h3, h4, h5⟩ := proper_small hp
  obtain ⟨p0, p1, p2, p3, p4, p5⟩ := Wire.parts_bytes (b := b) (k := 3) (e := 0) (s := s) (q := q) (by omega) (by omega) (by omega) (by omega) (by omega)
  have hr : Wire.reads (Wire.bytes 3 0 s q b.data.toList) = true := by unfold Wire.reads; rw [p0, p1, p2, p3, p4, p5, hp]; rfl
  have e2 : Wire.epochOf (Wire.bytes 3 0 s q b.data.toList) = ((0 : Nat) : Int) := p2
  obtain ⟨k1, k2⟩ := skW_yes (a := a) hr p1 e2 p3 p4 p5
  exact ⟨skSays_yes hr p1 e2 p3 p4 p5, k1, k2⟩
theorem data_proper {s q : Nat} {b : ByteArray} (hs : s < 3) (h1 : 1 ≤ q) (hq : q ≤ 2147483647) (hb : b.size ≤ 20) : Wire.proper 3 0 s q b = true := by
  simp [Wire.proper, Wire.isNum, Wire.isStr]
  omega
/-- The sink behind so many records of stream 2. -/
def fsk : Nat → Mod.Sk
  | 0 => { epoch := 0, logs := fun _ => [], held := [] }
  | i + 1 => (skReply (fsk i) 3 0 2 (i + 1) (dig i)).1
def digz (m : Nat) : List ByteArray := (List.range m).map dig
theorem digz_succ (m : Nat) : digz (m + 1) = digz m ++ [dig m] := by simp [digz, List.range_succ]
theorem digz_len (m : Nat) : (digz m).length = m := by simp [digz]
def lastB : ByteArray := ⟨#[108, 97, 115, 116]⟩
theorem fsk_fact : ∀ n, n < 20 → ((fsk n).logs 2 = digz n ∧ (fsk n).epoch = 0 ∧ skWr (fsk n) 3 0 2 (n + 1) lastB = 1 ∧ skBadR (fsk n) 3 2 (n + 1) lastB 1 2 = digz n) := by decide +kernel
def two (_ : Nat) : Nat := 2
theorem two_lt (i : Nat) : two i < 3 := by unfold two; omega
theorem take_two {i : Nat} (hi : i < 20) : (takeN two i).refuses 2 (dig i).size = 0 ∧ agSubmits (takeN two i) 2 (dig i) = takeN two (i + 1) := by
  have hs := dig_size i
  have hr : (takeN two i).room < 24 := by rw [takeN_room two_lt]; omega
  refine ⟨refuses_ok (s := 2) (by omega) hs hr, ?_⟩
  rw [show takeN two (i + 1) = (takeN two i).submit 2 (digB i) from rfl, digB_small (by omega)]
  exact submits_ok (s := 2) (by omega) hs hr
theorem last_two {i : Nat} (hi : i < 20) : (takeN two i).refuses 2 lastB.size = 0 := by
  have hr : (takeN two i).room < 24 := by rw [takeN_room two_lt]; omega
  exact refuses_ok (s := 2) (by omega) (by decide) hr
theorem takeN_spool2 : ∀ n, n < 100 → (takeN two n).spool 2 = digz n
  | 0, _ => rfl
  | i + 1, h => by
    rw [takeN_spool, show two i = 2 from rfl, if_pos rfl, takeN_spool2 i (by omega), digz_succ, digB_small (by omega)]
theorem reop_spool (a : Mod.Ag) : agSpools (Mod.reop a) 2 = a.spool 2 := by
  unfold agSpools Mod.reop Mod.Ag.spool
  simp
theorem reop_ep (a : Mod.Ag) : (Mod.reop a).epoch = a.epoch + 1 := rfl
theorem takeN_good {xs : Nat → Nat} (hx : ∀ i, xs i < 3) : ∀ i, i < 100 → AgGood i (takeN xs i)
  | 0, _ => agGood_zero 0
  | i + 1, h => agGood_submit (takeN_good hx i (by omega)) (xs i) (digB i) (by have := digB_size (n := i) (by omega); omega)
end Go.Proofs.YtamafdcnbcoegaaGreat
namespace Go.Proofs.YtamafdcnbcoegaaGreat
open Go.RowKit

/-- A thing in memory: it has blocks, and is as it was where they are. -/
structure ObjP (P : World → (Nat → Prop) → Prop) : Prop where
  lt : ∀ {w U}, P w U → ∀ k, U k → k < w.heap.size
  far : ∀ {w w' U E}, P w U → Far E w w' → (∀ k, U k → ¬ E k) → P w' U
/-- Two of them; G: blocks that are none of theirs. -/
structure PairO (P Q : World → (Nat → Prop) → Prop) (B : Nat) (x : World) (G : Nat → Prop) : Prop where
  all : ∃ (U V : Nat → Prop), P x U ∧ Q x V ∧ (∀ j, U j → ¬ V j) ∧ (∀ j, U j → B ≤ j) ∧ (∀ j, V j → B ≤ j) ∧ (∀ j, G j → j < x.heap.size ∧ ¬ U j ∧ ¬ V j)
  bx : B ≤ x.heap.size
section
variable {P P' Q Q' : World → (Nat → Prop) → Prop} {B : Nat} {x y : World} {G : Nat → Prop}
theorem PairO.swap (h : PairO P Q B x G) : PairO Q P B x G := by
  obtain ⟨U, V, h1, h2, h3, h4, h5, h6⟩ := h.all
  exact ⟨⟨V, U, h2, h1, fun j hj e => h3 j e hj, h5, h4, fun j hj => ⟨(h6 j hj).1, (h6 j hj).2.2, (h6 j hj).2.1⟩⟩, h.bx⟩
/-- Blocks of G, blocks below B and new blocks may be written. -/
theorem PairO.far {E : Nat → Prop} (oP : ObjP P) (oQ : ObjP Q) (h : PairO P Q B x G) (hF : Far E x y) (hE : ∀ j, E j → G j ∨ j < B) : PairO P Q B y G := by
  obtain ⟨U, V, h1, h2, h3, h4, h5, h6⟩ := h.all
  refine ⟨⟨U, V, oP.far h1 hF (fun j hu e => ?_), oQ.far h2 hF (fun j hu e => ?_), h3, h4, h5, fun j hj => ⟨Nat.lt_of_lt_of_le (h6 j hj).1 hF.size, (h6 j hj).2⟩⟩, Nat.le_trans h.bx hF.size⟩
  · rcases hE j e with e | e
    · exact (h6 j e).2.1 hu
    · have := h4 j hu; omega
  · rcases hE j e with e | e
    · exact (h6 j e).2.2 hu
    · have := h5 j hu; omega
theorem PairO.below (oP : ObjP P) (oQ : ObjP Q) (h : PairO P Q B x G) (hb : Below x.heap.size x y) : PairO P Q B y G := h.far oP oQ (E := fun _ => False) (far_below hb) (fun _ e => e.elim)
theorem PairO.less {G' : Nat → Prop} (h : PairO P Q B x G) (hG : ∀ j, G' j → G j) : PairO P Q B x G' := by
  obtain ⟨U, V, h1, h2, h3, h4, h5, h6⟩ := h.all
  exact ⟨⟨U, V, h1, h2, h3, h4, h5, fun j hj => h6 j (hG j hj)⟩, h.bx⟩
theorem PairO.turn (h : PairO P Q B x G) (hP : ∀ U, P x U → P' x U) (hQ : ∀ U, Q x U → Q' x U) : PairO P' Q' B x G := by
  obtain ⟨U, V, h1, h2, h3, h4, h5, h6⟩ := h.all
  exact ⟨⟨U, V, hP U h1, hQ V h2, h3, h4, h5, h6⟩, h.bx⟩
/-- New blocks are none of theirs. -/
theorem PairO.write {E : Nat → Prop} (oP : ObjP P) (oQ : ObjP Q) (h : PairO P Q B x G) (hF : Far E x y) (hE : ∀ j, E j → G j ∨ j < B) : PairO P Q B y (fun j => G j ∨ (x.heap.size ≤ j ∧ j < y.heap.size)) := by
  have h' := h.far oP oQ hF hE
  obtain ⟨U, V, h1, h2, h3, h4, h5, h6⟩ := h.all
  have hu := oP.lt h1
  have hv := oQ.lt h2
  refine ⟨⟨U, V, oP.far h1 hF (fun j hj e => ?_), oQ.far h2 hF (fun j hj e => ?_), h3, h4, h5, fun j hj => ?_⟩, h'.bx⟩
  · rcases hE j e with e | e
    · exact (h6 j e).2.1 hj
    · have := h4 j hj; omega
  · rcases hE j e with e | e
    · exact (h6 j e).2.2 hj
    · have := h5 j hj; omega
  · rcases hj with hj | hj
    · exact ⟨Nat.lt_of_lt_of_le (h6 j hj).1 hF.size, (h6 j hj).2⟩
    · exact ⟨hj.2, fun e => by have := hu j e; omega, fun e => by have := hv j e; omega⟩
/-- A call upon the first of them. -/
theorem PairO.left {f : Nat} {args : Array Value} {R : Ending → World → Prop} (oQ : ObjP Q) (h : PairO P Q B x G)
    (hc : ∀ U, P x U → Calls Tryz.prog f args x fun r y => ∃ U', R r y ∧ P' y U' ∧ Far U x y ∧ ∀ k, U' k → U k ∨ x.heap.size ≤ k) :
    Calls Tryz.prog f args x fun r y => R r y ∧ PairO P' Q B y G ∧ Same B G x y := by
  obtain ⟨U, V, h1, h2, h3, h4, h5, h6⟩ := h.all
  have hv := oQ.lt h2
  refine (hc U h1).mono ?_
  rintro r y ⟨U', hr, k1, k2, k3⟩
  have hsz := k2.size
  refine ⟨hr, ⟨⟨U', V, k1, oQ.far h2 k2 (fun j hj e => h3 j e hj), fun j hj e => ?_, fun j hj => ?_, h5, fun j hj => ⟨Nat.lt_of_lt_of_le (h6 j hj).1 hsz, fun e => ?_, (h6 j hj).2.2⟩⟩, Nat.le_trans h.bx hsz⟩, k2.mono (fun j _ e => ⟨h4 j e, fun g => (h6 j g).2.1 e⟩)⟩
  · rcases k3 j hj with e' | e'
    · exact h3 j e' e
    · have := hv j e; omega
  · rcases k3 j hj with e' | e'
    · exact h4 j e'
    · have := h.bx; omega
  · rcases k3 j e with e' | e'
    · exact (h6 j hj).2.1 e'
    · have := (h6 j hj).1; omega
theorem PairO.right {f : Nat} {args : Array Value} {R : Ending → World → Prop} (oP : ObjP P) (h : PairO P Q B x G)
    (hc : ∀ U, Q x U → Calls Tryz.prog f args x fun r y => ∃ U', R r y ∧ Q' y U' ∧ Far U x y ∧ ∀ k, U' k → U k ∨ x.heap.size ≤ k) :
    Calls Tryz.prog f args x fun r y => R r y ∧ PairO P Q' B y G ∧ Same B G x y :=
  (h.swap.left oP hc).mono fun _ _ ⟨h1, h2, h3⟩ => ⟨h1, h2.swap, h3⟩
end
section
variable (Y : AgentF) (X : SinkX)
/-- An agent of the program that lives, with at most K writes, armed for n. -/
def LiveA (op K n v : Nat) (a : Mod.Ag) (x : World) (U : Nat → Prop) : Prop := ∃ ct, Y.At op ct n x v a U ∧ ct ≤ K
def LiveS (op K n v : Nat) (a : Mod.Sk) (x : World) (U : Nat → Prop) : Prop := ∃ ct, X.At op ct n x v a U ∧ ct ≤ K
def DeadY (op v : Nat) (a : Mod.Ag) (x : World) (U : Nat → Prop) : Prop := Y.Dd op x v a U
def DeadX (op v e : Nat) (lg : Nat → List ByteArray) (x : World) (U : Nat → Prop) : Prop := X.Dd op x v e lg U
theorem obj_liveA (op K n v : Nat) (a : Mod.Ag) : ObjP (LiveA Y op K n v a) :=
  ⟨fun h k hk => by obtain ⟨ct, h1, _⟩ := h; exact Y.lt h1 k hk, fun h hF hE => by obtain ⟨ct, h1, h2⟩ := h; exact ⟨ct, Y.far h1 hF hE, h2⟩⟩
theorem obj_liveS (op K n v : Nat) (a : Mod.Sk) : ObjP (LiveS X op K n v a) :=
  ⟨fun h k hk => by obtain ⟨ct, h1, _⟩ := h; exact X.lt h1 k hk, fun h hF hE => by obtain ⟨ct, h1, h2⟩ := h; exact ⟨ct, X.far h1 hF hE, h2⟩⟩
theorem obj_deadY (op v : Nat) (a : Mod.Ag) : ObjP (DeadY Y op v a) := ⟨fun h k hk => Y.ltD h k hk, fun h hF hE => Y.farD h hF hE⟩
theorem obj_deadX (op v e : Nat) (lg : Nat → List ByteArray) : ObjP (DeadX X op v e lg) := ⟨fun h k hk => X.ltD h k hk, fun h hF hE => X.farD h hF hE⟩
end
end Go.Proofs.YtamafdcnbcoegaaGreat
namespace Go.Proofs.YtamafdcnbcoegaaGreat
open Go.RowKit

section
variable {X : SinkX} {B op K n : Nat} {x y : World} {v : Nat} {a : Mod.Sk}
end
set_option maxRecDepth 100000 in
set_option maxHeartbeats 1000000 in
theorem keepSinkX_any (X : SinkX) (w : World) :
    Calls Tryz.prog 19 #[] w fun r y => ∃ v U, r = .returned (ptrTo v) ∧ X.At 1 1 0 y v { epoch := 0, logs := fun _ => [], held := [] } U ∧ Below w.heap.size w y ∧ ∀ j, U j → w.heap.size ≤ j := by
  go_enter Tryz.func19, Tryz.ntmps19
  go_wp2_with (at_make; refine wp_make_full rfl _ _ rfl w.heap.size _ _ _ _ 7808 rfl rfl rfl rfl (by omega) (Nat.le_refl _) ?_; intro w1 hown1 hg1; have b1 := hide (below_grown_new (B := w.heap.size) hg1 (Nat.le_refl _) (by simp)); have HA := hide (Owns.at hown1); clear hown1 hg1)
  refine (X.zero _ (unhide HA)).mono ?_
  rintro r y ⟨v, U, rfl, k1, k2, k3⟩
  have HK := hide (And.intro k1 (And.intro k2 k3))
  clear k1 k2 k3
  unfold ptrTo
  go_wp2
  go_ret
  obtain ⟨k1, k2, k3⟩ := unhide HK
  have hb := unhide b1
  exact ⟨v, U, rfl, k1, hb.trans (k2.mono hb.size), fun j hj => Nat.le_trans hb.size (k3 j hj)⟩
end Go.Proofs.YtamafdcnbcoegaaGreat
namespace Go.Proofs.YtamafdcnbcoegaaGreat
open Go.RowKit

theorem fsk_good : ∀ i, i < 20 → SkGood (fsk i)
  | 0, _ => skGood_new
  | i + 1, h => by
    have hp : Wire.proper 3 0 (2 : Nat) (i + 1 : Nat) (dig i) = true := data_proper (by omega) (by omega) (by omega) (dig_size i)
    have := skGood_says (fsk_good i (by omega)) (Wire.bytes 3 0 (2 : Nat) (i + 1 : Nat) (dig i).data.toList)
    rw [(says_gen _ hp).1] at this
    exact this
section
variable {Y : AgentF} {X : SinkX} {P Q : World → (Nat → Prop) → Prop} {B K n : Nat} {x y : World} {va vs : Nat} {G : Nat → Prop}
theorem fa_submit {i : Nat} (oQ : ObjP Q) (h : PairO (LiveA Y 1 K 0 va (takeN two i)) Q B x G) (hi : i < 20) (hK : K ≤ 100000) :
    Calls Tryz.prog 21 #[ptrTo va, .int .i64 2, .string (dig i)] x fun r y => r = .returned (.int .i64 0) ∧ PairO (LiveA Y 1 (K + 1) 0 va (takeN two (i + 1))) Q B y G ∧ Same B G x y := by
  obtain ⟨t1, t2⟩ := take_two hi
  refine h.left (R := fun r _ => r = .returned (.int .i64 0)) oQ (fun U hU => ?_)
  obtain ⟨ct, h1, h2⟩ := hU
  refine (Y.submit 2 (dig i) h1 (takeN_good two_lt i (by omega)) (by omega) (by omega) (by omega)).mono ?_
  rintro r y ⟨U', n', rfl, k0, k1, k2, k3⟩
  rw [t1, t2] at *
  obtain rfl := k0 rfl
  exact ⟨U', rfl, ⟨_, k1, by omega⟩, k2, k3⟩
theorem fa_bad {i : Nat} (oQ : ObjP Q) (h : PairO (LiveA Y 1 K 1 va (takeN two i)) Q B x G) (hi : i < 20) :
    Calls Tryz.prog 21 #[ptrTo va, .int .i64 2, .string lastB] x fun r y => r = .returned (.int .i64 4) ∧ PairO (DeadY Y 1 va (takeN two i)) Q B y G ∧ Same B G x y := by
  refine h.left (R := fun r _ => r = .returned (.int .i64 4)) oQ (fun U hU => ?_)
  obtain ⟨ct, h1, h2⟩ := hU
  refine (Y.bad 2 lastB h1 (takeN_good two_lt i (by omega)) (by omega) (last_two hi)).mono ?_
  rintro r y ⟨U', rfl, k1, k2, k3⟩
  exact ⟨U', rfl, k1, k2, k3⟩
theorem fa_arm {a : Mod.Ag} (oQ : ObjP Q) (h : PairO (LiveA Y 1 K n va a) Q B x G) (m : Int) (hm : m ≤ 9223372036854775807) :
    Calls Tryz.prog 34 #[ptrTo va, .int .i64 m] x fun r y => r = .returned (.tuple #[]) ∧ PairO (LiveA Y 1 K m.toNat va a) Q B y G ∧ Same B G x y := by
  refine h.left (R := fun r _ => r = .returned (.tuple #[])) oQ (fun U hU => ?_)
  obtain ⟨ct, h1, h2⟩ := hU
  refine (Y.arm m h1 hm).mono ?_
  rintro r y ⟨rfl, k1, k2⟩
  exact ⟨U, rfl, ⟨_, k1, h2⟩, k2, fun k hk => .inl hk⟩
theorem fs_arm {a : Mod.Sk} (oP : ObjP P) (h : PairO P (LiveS X 1 K n vs a) B x G) (m : Int) (hm : m ≤ 9223372036854775807) :
    Calls Tryz.prog 35 #[ptrTo vs, .int .i64 m] x fun r y => r = .returned (.tuple #[]) ∧ PairO P (LiveS X 1 K m.toNat vs a) B y G ∧ Same B G x y := by
  refine h.right (R := fun r _ => r = .returned (.tuple #[])) oP (fun U hU => ?_)
  obtain ⟨ct, h1, h2⟩ := hU
  refine (X.arm m h1 hm).mono ?_
  rintro r y ⟨rfl, k1, k2⟩
  exact ⟨U, rfl, ⟨_, k1, h2⟩, k2, fun k hk => .inl hk⟩
theorem fs_feed {i : Nat} (oP : ObjP P) (h : PairO P (LiveS X 1 K 0 vs (fsk i)) B x G) (hi : i < 20) (hK : K ≤ 100000) (bs : Value) (hat : BytesAt x bs (Wire.bytes 3 0 (2 : Nat) (i + 1 : Nat) (dig i).data.toList)) :
    Calls Tryz.prog 27 #[ptrTo vs, bs] x fun r y => (∃ ad len cap, r = .returned (.tuple #[.slice ad len cap, .int .i64 0])) ∧ PairO P (LiveS X 1 (K + 120) 0 vs (fsk (i + 1))) B y G ∧ Same B G x y := by
  have hp : Wire.proper 3 0 (2 : Nat) (i + 1 : Nat) (dig i) = true := data_proper (by omega) (by omega) (by omega) (dig_size i)
  obtain ⟨e1, e2, _⟩ := says_gen (fsk i) hp
  have hw := skWr_le (fsk_good i hi) 3 0 2 (i + 1) (dig i)
  refine h.right (R := fun r _ => ∃ ad len cap, r = .returned (.tuple #[.slice ad len cap, .int .i64 0])) oP (fun U hU => ?_)
  obtain ⟨ct, h1, h2⟩ := hU
  refine (X.ok bs _ h1 (by omega) (fsk_good i hi) hat (.inl rfl)).mono ?_
  rintro r y ⟨lv, fs, U', rfl, m1, m2, m3, m4⟩
  rw [e1, e2, Nat.zero_sub] at m2
  obtain ⟨ad, cap, rfl, _⟩ := (own_rowO m1.row).shape
  exact ⟨U', ⟨ad, _, cap, by rw [e1]⟩, ⟨_, m2, by omega⟩, m3, m4⟩
/-- The log that is there where the last record failed. -/
def flg (i : Nat) : Nat → List ByteArray := skBadR (fsk i) 3 2 (i + 1) lastB 1
theorem fs_bad {i : Nat} (oP : ObjP P) (h : PairO P (LiveS X 1 K 1 vs (fsk i)) B x G) (hi : i < 20) (hK : K ≤ 100000) (bs : Value) (hat : BytesAt x bs (Wire.bytes 3 0 (2 : Nat) (i + 1 : Nat) lastB.data.toList)) :
    Calls Tryz.prog 27 #[ptrTo vs, bs] x fun r y => (∃ ad cap, r = .returned (.tuple #[.slice ad 0 cap, .int .i64 4])) ∧ PairO P (DeadX X 1 vs 0 (flg i)) B y G ∧ Same B G x y := by
  have hp : Wire.proper 3 0 (2 : Nat) (i + 1 : Nat) lastB = true := data_proper (by omega) (by omega) (by omega) (by decide)
  obtain ⟨_, e2, e3⟩ := says_gen (fsk i) hp
  obtain ⟨f1, f2, f3, f4⟩ := fsk_fact i hi
  refine h.right (R := fun r _ => ∃ ad cap, r = .returned (.tuple #[.slice ad 0 cap, .int .i64 4])) oP (fun U hU => ?_)
  obtain ⟨ct, h1, h2⟩ := hU
  refine (X.bad bs _ h1 (by omega) (fsk_good i hi) hat (by rw [e2, f3]; omega)).mono ?_
  rintro r y ⟨lv, fs, U', rfl, m1, m2, m3, m4⟩
  rw [e3, f2] at m2
  obtain ⟨ad, cap, rfl, _⟩ := (own_rowO m1.row).shape
  have hl : fs.length = 0 := by rw [m1.len]; rfl
  exact ⟨U', ⟨ad, cap, by rw [hl]⟩, m2, m3, m4⟩
theorem fa_dead {a : Mod.Ag} (h : PairO (DeadY Y 1 va a) Q B x G) (i : Int) (s : ByteArray) :
    Calls Tryz.prog 21 #[ptrTo va, .int .i64 i, .string s] x fun r y => r = .returned (.int .i64 3) ∧ y = x := by
  obtain ⟨U, V, h1, _⟩ := h.all
  exact Y.deadSubmit i s h1
theorem fa_deaf {a : Mod.Ag} (h : PairO (DeadY Y 1 va a) Q B x G) (bs : Value) :
    Calls Tryz.prog 28 #[ptrTo va, bs] x fun r y => r = .returned (.int .i64 3) ∧ y = x := by
  obtain ⟨U, V, h1, _⟩ := h.all
  exact Y.deadDeliver bs h1
theorem fs_deaf {e : Nat} {lg : Nat → List ByteArray} (h : PairO P (DeadX X 1 vs e lg) B x G) (bs : Value) :
    Calls Tryz.prog 27 #[ptrTo vs, bs] x fun r y => r = .returned (.tuple #[.slice none 0 0, .int .i64 3]) ∧ y = x := by
  obtain ⟨U, V, _, h2, _⟩ := h.all
  exact X.dead bs h2
theorem fa_tick {a : Mod.Ag} (oQ : ObjP Q) (h : PairO (DeadY Y 1 va a) Q B x G) (htk : a.ticks ≤ 1000000000) :
    Calls Tryz.prog 24 #[ptrTo va] x fun r y => r = .returned (.slice none 0 0) ∧ PairO (DeadY Y 1 va { a with ticks := a.ticks + 1 }) Q B y G ∧ Same B G x y := by
  refine h.left (R := fun r _ => r = .returned (.slice none 0 0)) oQ (fun U hU => ?_)
  refine (Y.deadTick hU htk).mono ?_
  rintro r y ⟨U', rfl, k1, k2, k3⟩
  exact ⟨U', rfl, k1, k2, k3⟩
theorem fa_img {op : Nat} {a : Mod.Ag} (h : PairO (DeadY Y op va a) Q B x G) : a.epoch = op ∧ ∃ (L : List UInt8) (c2 hd : Nat) (free : List Nat) (pl : Nat → List Nat), Mod.AgDisk L op c2 hd a free pl ∧ Mod.Places a free pl ∧ ∀ z, Below x.heap.size x z → ∀ keep : Int,
    Calls Tryz.prog 29 #[ptrTo va, .int .u64 keep] z fun r y => ∃ v', r = .returned v' ∧ Owns z.heap.size y v' L ∧ Below z.heap.size z y := by
  obtain ⟨U, V, h1, _⟩ := h.all
  exact Y.imgD h1
theorem fs_img {op e : Nat} {lg : Nat → List ByteArray} (h : PairO P (DeadX X op vs e lg) B x G) : ∃ (L : List UInt8) (c2 hd : Nat), Mod.SkDisk L op c2 hd e lg ∧ ∀ z, Below x.heap.size x z → ∀ keep : Int,
    Calls Tryz.prog 30 #[ptrTo vs, .int .u64 keep] z fun r y => ∃ v', r = .returned v' ∧ Owns z.heap.size y v' L ∧ Below z.heap.size z y := by
  obtain ⟨U, V, _, h2, _⟩ := h.all
  exact X.imgD h2
/-- Another one, that is new, in the first one's place. -/
theorem PairO.newLeft {P' : World → (Nat → Prop) → Prop} {U' : Nat → Prop} (oQ : ObjP Q) (h : PairO P Q B x G) (hP : P' y U') (hb : Below x.heap.size x y) (hn : ∀ k, U' k → x.heap.size ≤ k) : PairO P' Q B y G := by
  obtain ⟨U, V, h1, h2, h3, h4, h5, h6⟩ := h.all
  have hv := oQ.lt h2
  have hB := h.bx
  refine ⟨⟨U', V, hP, oQ.far h2 (E := fun _ => False) (far_below hb) (fun _ _ e => e), fun j hj e => by have := hn j hj; have := hv j e; omega, fun j hj => by have := hn j hj; omega, h5, fun j hj => ⟨Nat.lt_of_lt_of_le (h6 j hj).1 hb.size, fun e => by have := hn j e; have := (h6 j hj).1; omega, (h6 j hj).2.2⟩⟩, Nat.le_trans hB hb.size⟩
theorem fa_open {op c2 hd : Nat} {L : List UInt8} {a : Mod.Ag} {free : List Nat} {pl : Nat → List Nat} (oQ : ObjP Q) (h : PairO P Q B x G) (D : Mod.AgDisk L op c2 hd a free pl) (Pl : Mod.Places a free pl) (he : a.epoch = op) (hop : op ≤ 1073741824) (hs : ∀ i, i < 3 → (a.fl i).base + (a.fl i).kept.length ≤ 1073741824) (bs : Value) (hat : BytesAt x bs L) :
    Calls Tryz.prog 37 #[bs] x fun r y => ∃ v, r = .returned (.tuple #[ptrTo v, .int .i64 0]) ∧ PairO (LiveA Y (op + 1) 1 0 v (Mod.reop a)) Q B y G ∧ Below x.heap.size x y := by
  refine (Y.opened bs L hat D Pl he hop hs).mono ?_
  rintro r y ⟨v, U, rfl, k1, k2, k3⟩
  exact ⟨v, rfl, h.newLeft oQ (P' := LiveA Y (op + 1) 1 0 v (Mod.reop a)) ⟨1, k1, Nat.le_refl _⟩ k2 k3, k2⟩
theorem fs_open {op c2 hd e : Nat} {L : List UInt8} {lg : Nat → List ByteArray} (oP : ObjP P) (h : PairO P Q B x G) (D : Mod.SkDisk L op c2 hd e lg) (hop : op ≤ 1073741824) (bs : Value) (hat : BytesAt x bs L) :
    Calls Tryz.prog 38 #[bs] x fun r y => ∃ v, r = .returned (.tuple #[ptrTo v, .int .i64 0]) ∧ PairO P (LiveS X (op + 1) 1 0 v { epoch := e, logs := lg, held := [] }) B y G ∧ Below x.heap.size x y := by
  refine (X.opened bs L hat D hop).mono ?_
  rintro r y ⟨v, U, rfl, k1, k2, k3⟩
  exact ⟨v, rfl, (h.swap.newLeft oP (P' := LiveS X (op + 1) 1 0 v { epoch := e, logs := lg, held := [] }) ⟨1, k1, Nat.le_refl _⟩ k2 k3).swap, k2⟩
theorem fa_epoch {op m : Nat} {a : Mod.Ag} (h : PairO (LiveA Y op m 0 va a) Q B x G) : Calls Tryz.prog 39 #[ptrTo va] x fun r y => r = .returned (.int .i64 a.epoch) ∧ Below x.heap.size x y := by
  obtain ⟨U, V, ⟨ct, h1, _⟩, _⟩ := h.all
  exact Y.epoch h1
theorem fa_spool {op m : Nat} {a : Mod.Ag} (h : PairO (LiveA Y op m 0 va a) Q B x G) (i : Int) : Calls Tryz.prog 26 #[ptrTo va, .int .i64 i] x fun r y => ∃ lv, r = .returned lv ∧ y.ownsRow x.heap.size 9 1 lv (agSpools a i).length (strs (agSpools a i)) ∧ Below x.heap.size x y := by
  obtain ⟨U, V, ⟨ct, h1, _⟩, _⟩ := h.all
  exact Y.spool i h1
theorem fs_log {op m : Nat} {a : Mod.Sk} (h : PairO P (LiveS X op m 0 vs a) B x G) (i : Int) : Calls Tryz.prog 32 #[ptrTo vs, .int .i64 i] x fun r y => ∃ lv, r = .returned lv ∧ y.ownsRow x.heap.size 9 1 lv (skLogs a i).length (strs (skLogs a i)) ∧ Below x.heap.size x y := by
  obtain ⟨U, V, _, ⟨ct, h2, _⟩, _⟩ := h.all
  exact X.log i h2
end
set_option maxRecDepth 100000 in
set_option maxHeartbeats 1000000 in
theorem keepAgentX_any (Y : AgentF) (w : World) :
    Calls Tryz.prog 18 #[] w fun r y => ∃ v U, r = .returned (ptrTo v) ∧ Y.At 1 1 0 y v { epoch := 1, ticks := 0, welcome := false, fenced := false, fl := fun _ => { base := 0, kept := [], held := [] } } U ∧ Below w.heap.size w y ∧ ∀ j, U j → w.heap.size ≤ j := by
  go_enter Tryz.func18, Tryz.ntmps18
  go_wp2_with (at_make; refine wp_make_full rfl _ _ rfl w.heap.size _ _ _ _ 1664 rfl rfl rfl rfl (by omega) (Nat.le_refl _) ?_; intro w1 hown1 hg1; have b1 := hide (below_grown_new (B := w.heap.size) hg1 (Nat.le_refl _) (by simp)); have HA := hide (Owns.at hown1); clear hown1 hg1)
  refine (Y.zero _ (unhide HA)).mono ?_
  rintro r y ⟨v, U, rfl, k1, k2, k3⟩
  have HK := hide (And.intro k1 (And.intro k2 k3))
  clear k1 k2 k3
  unfold ptrTo
  go_wp2
  go_ret
  obtain ⟨k1, k2, k3⟩ := unhide HK
  have hb := unhide b1
  exact ⟨v, U, rfl, k1, hb.trans (k2.mono hb.size), fun j hj => Nat.le_trans hb.size (k3 j hj)⟩
/-- The two ends at the head. -/
theorem fa_start (Y : AgentF) (X : SinkX) {w x1 x2 : World} {va vs : Nat} {U V : Nat → Prop} (a1 : Y.At 1 1 0 x1 va (takeN two 0) U) (a2 : Below w.heap.size w x1) (a3 : ∀ j, U j → w.heap.size ≤ j) (s1 : X.At 1 1 0 x2 vs (fsk 0) V) (s2 : Below x1.heap.size x1 x2) (s3 : ∀ j, V j → x1.heap.size ≤ j) :
    PairO (LiveA Y 1 1 0 va (takeN two 0)) (LiveS X 1 1 0 vs (fsk 0)) w.heap.size x2 (fun _ => False) ∧ Below w.heap.size w x2 := by
  have hw1 := a2.size
  have hw2 := s2.size
  have hUl := Y.lt a1
  exact ⟨⟨⟨U, V, ⟨1, Y.far a1 (E := fun _ => False) (far_below s2) (fun _ _ e => e), Nat.le_refl _⟩, ⟨1, s1, Nat.le_refl _⟩, fun j hj e => by have := hUl j hj; have := s3 j e; omega, a3, fun j hj => Nat.le_trans hw1 (s3 j hj), fun j hj => hj.elim⟩, by omega⟩, a2.trans (s2.mono hw1)⟩
/-- A list of texts that was made within the law. -/
def WantL (B : Nat) (x : World) (v : Value) (l : List ByteArray) : Prop := x.ownsRow 0 9 1 v l.length (strs l) ∧ ∀ j, v.ownBlock = some j → B ≤ j
theorem WantL.same {B : Nat} {x y : World} {v : Value} {l : List ByteArray} {G : Nat → Prop} (h : WantL B x v l) (hS : Same B G x y) (hG : ∀ j, v.ownBlock = some j → G j) : WantL B y v l :=
  ⟨ownsRow_keepB h.1 (fun g hg => hS.blk (World.ownsRow.lt h.1 g hg).2 (hG g hg)), h.2⟩
theorem WantL.below {B : Nat} {x y : World} {v : Value} {l : List ByteArray} (h : WantL B x v l) (hb : Below x.heap.size x y) : WantL B y v l :=
  ⟨ownsRow_keepB h.1 (fun g hg => hb.block g (World.ownsRow.lt h.1 g hg).2), h.2⟩
end Go.Proofs.YtamafdcnbcoegaaGreat
namespace Go.Proofs.YtamafdcnbcoegaaGreat
open Go.RowKit

theorem strs_digz_succ (j : Nat) : strs (digz j) ++ [.string (dig j)] = strs (digz (j + 1)) := by rw [digz_succ]; simp [strs]
/-- A text more on the list. -/
theorem fa_app {P Q : World → (Nat → Prop) → Prop} {B : Nat} {x z : World} {G : Nat → Prop} {wv v' : Value} {xs : List Value} {b : Value} (oP : ObjP P) (oQ : ObjP Q) (h : PairO P Q B x G) (hG : ∀ q, wv.ownBlock = some q → G q) (hW : ∀ q, wv.ownBlock = some q → B ≤ q)
    (hr : z.ownsRow 0 9 1 v' (xs ++ [b]).length (xs ++ [b])) (ha : App x z wv v') :
    PairO P Q B z (fun q => v'.ownBlock = some q) ∧ (∀ q, v'.ownBlock = some q → B ≤ q) ∧ Below B x z := by
  have hF : Far (fun q => wv.ownBlock = some q) x z := far_grown ha.grown
  have hB := h.bx
  refine ⟨(h.write oP oQ hF (fun j e => .inl (hG j e))).less (fun q hq => ?_), fun q hq => ?_, Far.below hF hB (fun k hk e => by have := hW k e; omega)⟩
  · rcases ha.where_ with e | ⟨_, g, e, hg⟩
    · rw [e] at hq
      exact .inl (hG q hq)
    · have := (World.ownsRow.lt hr q hq).2
      rw [e] at hq
      injection hq with hq
      exact .inr ⟨by omega, this⟩
  · rcases ha.where_ with e | ⟨_, g, e, hg⟩
    · rw [e] at hq
      exact hW q hq
    · rw [e] at hq
      injection hq with hq
      omega
theorem alloc_pair {P Q : World → (Nat → Prop) → Prop} {B : Nat} {x : World} {G : Nat → Prop} (oP : ObjP P) (oQ : ObjP Q) (h : PairO P Q B x G) (o : Obj) : PairO P Q B (x.alloc o) G := h.below oP oQ ((Below.refl _ _).alloc (Nat.le_refl _) _)
/-- The dead agent, and what its disk would hold. -/
theorem fa_img2 {Y : AgentF} {Q : World → (Nat → Prop) → Prop} {B j va : Nat} {x : World} {G : Nat → Prop} (h : PairO (DeadY Y 1 va { takeN two j with ticks := (takeN two j).ticks + 1 }) Q B x G) (hj : j < 20) :
    ∃ A2 : Mod.Ag, (A2.epoch = 1 ∧ (∀ i, i < 3 → (A2.fl i).base + (A2.fl i).kept.length ≤ 1073741824) ∧ agSpools (Mod.reop A2) 2 = digz j) ∧ PairO (DeadY Y 1 va A2) Q B x G ∧ ∃ (L : List UInt8) (c2 hd : Nat) (free : List Nat) (pl : Nat → List Nat), Mod.AgDisk L 1 c2 hd A2 free pl ∧ Mod.Places A2 free pl ∧ ∀ z, Below x.heap.size x z → ∀ keep : Int,
    Calls Tryz.prog 29 #[ptrTo va, .int .u64 keep] z fun r y => ∃ v', r = .returned v' ∧ Owns z.heap.size y v' L ∧ Below z.heap.size z y := by
  obtain ⟨hep, hr⟩ := fa_img h
  refine ⟨_, ⟨hep, fun i hi => ?_, ?_⟩, h, hr⟩
  · have := (takeN_good two_lt j (by omega)).sum i hi
    show ((takeN two j).fl i).base + ((takeN two j).fl i).kept.length ≤ _
    omega
  · rw [reop_spool]
    exact takeN_spool2 j (by omega)
set_option maxRecDepth 100000 in
set_option maxHeartbeats 32000000 in
theorem fails_any (Y : AgentF) (X : SinkX) (b0 keep : Int) (w : World) (hb0 : -9223372036854775808 ≤ b0 ∧ b0 ≤ 9223372036854775807) :
    Calls Tryz.prog 9 #[.int .i64 b0, .int .u64 keep] w fun r y => r = .returned (.bool true) ∧ Below w.heap.size w y := by
  have HP1 := fun y => hide (keepPick_any b0 20 y hb0 (by omega) (by omega))
  have hn := pickN_lt b0 (n := 20) (by omega)
  generalize pickN b0 20 = n at HP1 hn
  clear hb0
  go_enter Tryz.func9, Tryz.ntmps9
  go_upto_region 2 with (go_at_call 18; refine (keepAgentX_any Y _).mono ?_; rintro r x1 ⟨va, U, rfl, k1, k2, k3⟩; have HA := hide (And.intro k1 (And.intro k2 k3)); clear k1 k2 k3)
  go_upto_region 3 with (go_at_call 19; refine (keepSinkX_any X _).mono ?_; rintro r x2 ⟨vs, V, rfl, k1, k2, k3⟩; have HS := hide (And.intro k1 (And.intro k2 k3)); clear k1 k2 k3)
  unfold ptrTo at *
  have HP := hide (fa_start Y X (unhide HA).1 (unhide HA).2.1 (unhide HA).2.2 (unhide HS).1 (unhide HS).2.1 (unhide HS).2.2)
  clear HA HS
  have HC := hide (fa_arm (obj_liveS X 1 1 0 vs (fsk 0)) (unhide HP).1 1 (by omega))
  unfold ptrTo at HC
  go_upto_region 6 with (go_at_call 34; refine (unhide HC).mono ?_; rintro r y ⟨rfl, k1, k2⟩; have HPn := hide (And.intro k1 ((unhide HP).2.trans (k2.bel (unhide HP).1.bx))); clear k1 k2)
  clear HP HC
  have HC := hide (fa_arm (obj_liveS X 1 1 0 vs (fsk 0)) (unhide HPn).1 0 (by omega))
  unfold ptrTo at HC
  go_upto_region 7 with (go_at_call 34; refine (unhide HC).mono ?_; rintro r y2 ⟨rfl, k1, k2⟩; have HP := hide (And.intro k1 ((unhide HPn).2.trans (k2.bel (unhide HPn).1.bx))); clear k1 k2)
  clear HPn HC
  have HC := hide (fs_arm (obj_liveA Y 1 1 0 va (takeN two 0)) (unhide HP).1 1 (by omega))
  unfold ptrTo at HC
  go_upto_region 8 with (go_at_call 35; refine (unhide HC).mono ?_; rintro r y3 ⟨rfl, k1, k2⟩; have HPn := hide (And.intro k1 ((unhide HP).2.trans (k2.bel (unhide HP).1.bx))); clear k1 k2)
  clear HP HC
  have HC := hide (fs_arm (obj_liveA Y 1 1 0 va (takeN two 0)) (unhide HPn).1 (-1) (by omega))
  unfold ptrTo at HC
  go_upto_region 9 with (go_at_call 35; refine (unhide HC).mono ?_; rintro r y4 ⟨rfl, k1, k2⟩; have HP := hide (And.intro k1 ((unhide HPn).2.trans (k2.bel (unhide HPn).1.bx))); clear k1 k2)
  clear HPn HC
  go_upto_region 10 with (go_at_call 22; refine (unhide (HP1 _)).mono ?_; rintro r y5 ⟨rfl, hyw⟩; obtain rfl : y4 = y5 := hyw.symm)
  go_wp2
  go_loopw [8, 9] (fun wv i wr => ∃ j : Nat, j ≤ n ∧ i = .int .i64 j ∧ PairO (LiveA Y 1 (1 + j) 0 va (takeN two j)) (LiveS X 1 (1 + 120 * j) 0 vs (fsk j)) w.heap.size wr (fun q => wv.ownBlock = some q) ∧ WantL w.heap.size wr wv (digz j) ∧ Below w.heap.size w wr) (fun _ i _ => n - (intOf i).toNat)
  case atStart =>
    refine ⟨0, by omega, rfl, (unhide HP).1.less (fun q hq => by cases hq), ⟨World.ownsRow_nil _ _ _ _, fun j hj => by cases hj⟩, (unhide HP).2⟩
  case round =>
    obtain ⟨j, hj, rfl, hP, hW, hB⟩ := hrel
    obtain ⟨wad, wcap, hwv, _⟩ := (own_rowO hW.1).shape
    rw [digz_len] at hwv
    rw [hwv] at hP hW
    subst hwv
    have HP5 := hide hP
    have HW := hide hW
    have HB := hide hB
    clear hP hW hB HP
    have oA := fun m a => obj_liveA Y 1 m 0 va a
    have oS := fun m a => obj_liveS X 1 m 0 vs a
    have OA := hide oA
    have OS := hide oS
    clear oA oS
    by_cases hlt : j < n
    · have hji : (j : Int) < (n : Int) := by omega
      have hj0 : (0 : Int) ≤ (j : Int) := by omega
      have HD := fun y => hide (digits_any j y (by omega))
      rw [digB_small (by omega)] at HD
      obtain ⟨BL, hBL⟩ : ∃ BL, BL = Wire.bytes 3 0 (2 : Nat) (j + 1 : Nat) (dig j).data.toList := ⟨_, rfl⟩
      have HBL := hide hBL
      clear hBL
      have HE : ∀ y, Hid (Calls Tryz.prog 36 #[.agg #[.int .i64 3, .int .i64 0, .int .i64 2, .int .i64 ((j : Int) + 1), .string (dig j)]] y fun r w' => ∃ v, r = .returned (.tuple #[v, .int .i64 0]) ∧ Owns (y.heap.size + 1) w' v BL ∧ Below y.heap.size y w') := fun y => by
        have e : ((j : Int) + 1) = ((j + 1 : Nat) : Int) := by omega
        rw [e, unhide HBL]
        exact courier_Encode_yes 3 0 (2 : Nat) (j + 1 : Nat) (dig j) y (data_proper (by omega) (by omega) (by omega) (dig_size j))
      have HJ := hide hlt
      go_upto_region 15 with (first
        | (go_at_call 23; refine (unhide (HD _)).mono ?_; rintro r y1 ⟨rfl, hy⟩; have HPa := hide ((unhide HP5).below (unhide OA _ _) (unhide OS _ _) hy); have HWa := hide ((unhide HW).below hy); have HBa := hide ((unhide HB).trans (hy.mono (unhide HB).size)); clear hy)
        | (go_at_call 36; refine (unhide (HE _)).mono ?_; rintro r y2 ⟨bv, rfl, ho, hy⟩; have HPb := hide ((unhide HPa).write (unhide OA _ _) (unhide OS _ _) (E := fun _ => False) (far_below hy) (fun _ e => e.elim)); have HWb := hide ((unhide HWa).below hy); have HBb := hide ((unhide HBa).trans (hy.mono (unhide HBa).size)); have HOb := hide ho; obtain ⟨bad, bcap, rfl, _⟩ := ho.shape; clear ho hy))
      clear HPa HWa HBa HP5 HW HB HE
      go_upto_region 16 with (first
        | (go_at_call 23; refine (unhide (HD _)).mono ?_; rintro r y3 ⟨rfl, hy⟩; have HPc := hide ((unhide HPb).below (unhide OA _ _) (unhide OS _ _) hy); have HWc := hide ((unhide HWb).below hy); have HBc := hide ((unhide HBb).trans (hy.mono (unhide HBb).size)); have HOc := hide (Owns.below (unhide HOb) hy (fun g hg => (Owns.lt (unhide HOb) g hg).2)); have HSU := hide (fa_submit (unhide OS _ _) (unhide HPc) (by omega) (by omega)); unfold ptrTo at HSU; clear hy)
        | (go_at_call 21; refine (unhide HSU).mono ?_; rintro r y4 ⟨rfl, k1, k2⟩; have HPd := hide k1; have HWd := hide ((unhide HWc).same k2 (fun q hq => .inl hq)); have HBd := hide ((unhide HBc).trans (k2.bel (unhide HPc).bx)); have HOd := hide (ownsRow_keepB (unhide HOc) (fun g hg => k2.blk (Owns.lt (unhide HOc) g hg).2 (.inr ⟨by have := (Owns.lt (unhide HOb) g hg).1; omega, (Owns.lt (unhide HOb) g hg).2⟩))); clear k1 k2))
      have HFD := hide (fs_feed (unhide OA _ _) (unhide HPd) (by omega) (by omega) (.slice bad BL.length bcap) (by rw [← unhide HBL]; exact Owns.at (show Owns _ _ _ _ from unhide HOd)))
      clear HPc HWc HBc HOc HPb HWb HBb HSU
      unfold ptrTo at HFD
      go_upto_region 17 with (go_at_call 27; refine (unhide HFD).mono ?_; rintro r y5 ⟨⟨lad, llen, lcap, rfl⟩, k1, k2⟩; have HPe := hide k1; have HWe := hide ((unhide HWd).same k2 (fun q hq => .inl hq)); have HBe := hide ((unhide HBd).trans (k2.bel (unhide HPd).bx)); clear k1 k2)
      clear HFD HPd HWd HBd HOd HOb
      go_upto_region 19 with fail
      have hxl : (strs (digz j)).length = j := by rw [strs_length, digz_len]
      have HXS := hide (strs_digz_succ j)
      have hrow0 := (unhide HWe).1
      rw [digz_len] at hrow0
      generalize strs (digz j) = xs at hxl HXS hrow0
      have HROW := hide hrow0
      clear hrow0
      go_wp2_with (first
        | (go_at_call 23; refine (unhide (HD _)).mono ?_; rintro r y6 ⟨rfl, hy⟩; have HPf := hide ((unhide HPe).below (unhide OA _ _) (unhide OS _ _) hy); have HBf := hide ((unhide HBe).trans (hy.mono (unhide HBe).size)); have HRf := hide (ownsRow_keepB (unhide HROW) (fun g hg => hy.block g (World.ownsRow.lt (unhide HROW) g hg).2)); clear hy)
        | (at_builtin; refine wpList_app1 rfl (.tmp 81) (.tmp 84) 45 rfl 9 _ 16 Tryz.underlying45 infoStr rfl (.slice wad j wcap) xs (by rw [hxl]; exact World.ownsRow.alloc (unhide HRf) _) rfl ⟨y6.heap.size, 0, none⟩ (.string (dig j)) rfl (by simp) rfl (by omega) (by omega) ?_; intro v' w1 hown' _ happ; have HAPP := hide happ; have HOWN := hide hown'; obtain ⟨ad2, cap2, rfl, _⟩ := (own_rowO hown').shape; clear happ hown'))
      go_roundw
      case rel =>
        have hown := unhide HOWN
        obtain ⟨q1, q2, q3⟩ := fa_app (unhide OA _ _) (unhide OS _ _) (alloc_pair (unhide OA _ _) (unhide OS _ _) (unhide HPf) _) (fun q hq => .inl hq) (unhide HWe).2 hown (unhide HAPP)
        have hba := (unhide HBf).alloc (unhide HBf).size (.cells #[.string (dig j)] 9)
        have hxe : (xs ++ [Value.string (dig j)]).length = j + 1 := by rw [List.length_append, hxl]; rfl
        rw [hxe] at q1 q2 hown
        rw [unhide HXS] at hown
        refine ⟨j + 1, by have := unhide HJ; omega, by go_num, q1.turn (fun U hU => ?_) (fun U hU => ?_), ⟨?_, q2⟩, hba.trans q3⟩
        · obtain ⟨ct, e1, e2⟩ := hU
          exact ⟨ct, e1, by omega⟩
        · obtain ⟨ct, e1, e2⟩ := hU
          exact ⟨ct, e1, by omega⟩
        · rw [digz_len]
          exact hown
      case measure => have := unhide HJ; simp [intOf]; omega
    · have hje : j = n := by omega
      subst hje
      have hji : ¬ (j : Int) < (j : Int) := by omega
      obtain ⟨BL, hBL⟩ : ∃ BL, BL = Wire.bytes 3 0 (2 : Nat) (j + 1 : Nat) lastB.data.toList := ⟨_, rfl⟩
      have HBL := hide hBL
      clear hBL
      have HE : ∀ y, Hid (Calls Tryz.prog 36 #[.agg #[.int .i64 3, .int .i64 0, .int .i64 2, .int .i64 ((j : Int) + 1), .string ⟨#[108, 97, 115, 116]⟩]] y fun r w' => ∃ v, r = .returned (.tuple #[v, .int .i64 0]) ∧ Owns (y.heap.size + 1) w' v BL ∧ Below y.heap.size y w') := fun y => by
        have e : ((j : Int) + 1) = ((j + 1 : Nat) : Int) := by omega
        rw [e, unhide HBL]
        exact courier_Encode_yes 3 0 (2 : Nat) (j + 1 : Nat) lastB y (data_proper (by omega) (by omega) (by omega) (by decide))
      go_upto_region 21 with (go_at_call 36; refine (unhide (HE _)).mono ?_; rintro r y2 ⟨bv, rfl, ho, hy⟩; have HPb := hide ((unhide HP5).write (unhide OA _ _) (unhide OS _ _) (E := fun _ => False) (far_below hy) (fun _ e => e.elim)); have HWb := hide ((unhide HW).below hy); have HBb := hide ((unhide HB).trans (hy.mono (unhide HB).size)); have HOb := hide ho; obtain ⟨bad, bcap, rfl, _⟩ := ho.shape; clear ho hy)
      clear HE HP5 HW HB
      have HC := hide (fa_arm (unhide OS _ _) (unhide HPb) 1 (by omega))
      unfold ptrTo at HC
      go_upto_region 22 with (go_at_call 34; refine (unhide HC).mono ?_; rintro r y3 ⟨rfl, k1, k2⟩; have HPc := hide k1; have HWc := hide ((unhide HWb).same k2 (fun q hq => .inl hq)); have HBc := hide ((unhide HBb).trans (k2.bel (unhide HPb).bx)); have HOc := hide (ownsRow_keepB (unhide HOb) (fun g hg => k2.blk (Owns.lt (unhide HOb) g hg).2 (.inr ⟨by have := (Owns.lt (unhide HOb) g hg).1; omega, (Owns.lt (unhide HOb) g hg).2⟩))); clear k1 k2)
      have hgb : ∀ g, (Value.slice bad BL.length bcap).ownBlock = some g → wr.heap.size ≤ g ∧ g < y2.heap.size := fun g hg => ⟨by have := (Owns.lt (unhide HOb) g hg).1; omega, (Owns.lt (unhide HOb) g hg).2⟩
      have HGB := hide hgb
      clear hgb HC HPb HWb HBb HOb
      have HC := hide (fs_arm (obj_liveA Y 1 (1 + j) (1 : Int).toNat va (takeN two j)) (unhide HPc) 1 (by omega))
      unfold ptrTo at HC
      go_upto_region 23 with (go_at_call 35; refine (unhide HC).mono ?_; rintro r y4 ⟨rfl, k1, k2⟩; have HPd := hide k1; have HWd := hide ((unhide HWc).same k2 (fun q hq => .inl hq)); have HBd := hide ((unhide HBc).trans (k2.bel (unhide HPc).bx)); have HOd := hide (ownsRow_keepB (unhide HOc) (fun g hg => k2.blk (World.ownsRow.lt (unhide HOc) g hg).2 (.inr (unhide HGB g hg)))); clear k1 k2)
      clear HC HPc HWc HBc HOc
      have HC : Hid (Calls Tryz.prog 21 #[.pointer (some ⟨va, 0, none⟩), .int .i64 2, .string ⟨#[108, 97, 115, 116]⟩] y4 _) := fa_bad (obj_liveS X 1 (1 + 120 * j) (1 : Int).toNat vs (fsk j)) (unhide HPd) (by omega)
      go_upto_region 24 with (go_at_call 21; refine (unhide HC).mono ?_; rintro r y5 ⟨rfl, k1, k2⟩; have HPe := hide k1; have HWe := hide ((unhide HWd).same k2 (fun q hq => .inl hq)); have HBe := hide ((unhide HBd).trans (k2.bel (unhide HPd).bx)); have HOe := hide (ownsRow_keepB (unhide HOd) (fun g hg => k2.blk (World.ownsRow.lt (unhide HOd) g hg).2 (.inr (unhide HGB g hg)))); clear k1 k2)
      clear HC HPd HWd HBd HOd
      have HC := hide (fs_bad (obj_deadY Y 1 va (takeN two j)) (unhide HPe) (by omega) (by omega) (.slice bad BL.length bcap) (by rw [← unhide HBL]; exact Owns.at (show Owns _ _ _ _ from unhide HOe)))
      unfold ptrTo at HC
      go_upto_region 25 with (go_at_call 27; refine (unhide HC).mono ?_; rintro r y6 ⟨⟨lad, lcap, rfl⟩, k1, k2⟩; have HPf := hide k1; have HWf := hide ((unhide HWe).same k2 (fun q hq => .inl hq)); have HBf := hide ((unhide HBe).trans (k2.bel (unhide HPe).bx)); clear k1 k2)
      clear HC HPe HWe HBe HOe HGB
      have HC1 := hide (fa_dead (unhide HPf) 7 ⟨#[]⟩)
      have HC2 := hide (fa_deaf (unhide HPf) (.slice none 0 0))
      have HC3 := hide (fs_deaf (unhide HPf) (.slice none 0 0))
      have HC4 := hide (fa_tick (obj_deadX X 1 vs 0 (flg j)) (unhide HPf) (by have := (takeN_good two_lt j (by omega)).tk; omega))
      unfold ptrTo at HC1 HC2 HC3 HC4
      go_upto_region 28 with (go_at_call 21; refine (unhide HC1).mono ?_; rintro r y ⟨rfl, rfl⟩)
      go_upto_region 29 with (go_at_call 28; refine (unhide HC2).mono ?_; rintro r y ⟨rfl, rfl⟩)
      go_upto_region 30 with (go_at_call 27; refine (unhide HC3).mono ?_; rintro r y ⟨rfl, rfl⟩)
      go_upto_region 31 with (go_at_call 24; refine (unhide HC4).mono ?_; rintro r y7 ⟨rfl, k1, k2⟩; have HPg := hide k1; have HWg := hide ((unhide HWf).same k2 (fun q hq => .inl hq)); have HBg := hide ((unhide HBf).trans (k2.bel (unhide HPf).bx)); clear k1 k2)
      clear HC1 HC2 HC3 HC4 HPf HWf HBf
      obtain ⟨A2, ⟨hep, hsm, hspl⟩, hpg, AL, ac2, ahd, afr, apl, aD, aP, aI⟩ := fa_img2 (unhide HPg) (by omega)
      clear HPg
      have HPg := hide hpg
      have HIA := hide (aI y7 (Below.refl _ _) keep)
      have HAD := hide (And.intro aD (And.intro aP hep))
      have HSM := hide hsm
      have HSPL := hide hspl
      clear hpg aD aP hep aI hsm hspl
      unfold ptrTo at HIA
      go_upto_region 34 with (first
        | (go_at_call 29; refine (unhide HIA).mono ?_; rintro r y8 ⟨iv, rfl, ho, hy⟩; have HPh := hide ((unhide HPg).below (obj_deadY Y 1 va A2) (obj_deadX X 1 vs 0 (flg j)) hy); have HWh := hide ((unhide HWg).below hy); have HBh := hide ((unhide HBg).trans (hy.mono (unhide HBg).size)); have HOPN := hide (fa_open (Y := Y) (obj_deadX X 1 vs 0 (flg j)) (unhide HPh) (unhide HAD).1 (unhide HAD).2.1 (unhide HAD).2.2 (by omega) (unhide HSM) iv (Owns.at ho)); obtain ⟨iad, icap, rfl, _⟩ := ho.shape; generalize AL.length = ilen at HOPN ⊢; unfold ptrTo at HOPN; clear ho hy)
        | (go_at_call 37; refine (unhide HOPN).mono ?_; rintro r y9 ⟨vc, rfl, k1, k2⟩; have HPi := hide k1; have HWi := hide ((unhide HWh).below k2); have HBi := hide ((unhide HBh).trans (k2.mono (unhide HBh).size)); clear k1 k2))
      clear HIA HSM HPh HWh HBh HOPN HPg HWg HBg
      have hep2 : Hid ((Mod.reop A2).epoch = 2) := by
        show _ = _
        rw [reop_ep, (unhide HAD).2.2]
      clear HAD
      generalize Mod.reop A2 = A3 at HPi HSPL hep2
      obtain ⟨SL, sc2, shd, sD, sI⟩ := fs_img (unhide HPi)
      have HIS := hide (sI y9 (Below.refl _ _) keep)
      have HSD := hide sD
      clear sD sI
      unfold ptrTo at HIS
      go_upto_region 35 with (first
        | (go_at_call 30; refine (unhide HIS).mono ?_; rintro r y10 ⟨iv2, rfl, ho, hy⟩; have HPj := hide ((unhide HPi).below (obj_liveA Y (1 + 1) 1 0 vc A3) (obj_deadX X 1 vs 0 (flg j)) hy); have HWj := hide ((unhide HWi).below hy); have HBj := hide ((unhide HBi).trans (hy.mono (unhide HBi).size)); have HOPN := hide (fs_open (X := X) (obj_liveA Y (1 + 1) 1 0 vc A3) (unhide HPj) (unhide HSD) (by omega) iv2 (Owns.at ho)); obtain ⟨iad2, icap2, rfl, _⟩ := ho.shape; generalize SL.length = ilen2 at HOPN ⊢; unfold ptrTo at HOPN; clear ho hy)
        | (go_at_call 38; refine (unhide HOPN).mono ?_; rintro r y11 ⟨vt, rfl, k1, k2⟩; have HPk := hide k1; have HWk := hide ((unhide HWj).below k2); have HBk := hide ((unhide HBj).trans (k2.mono (unhide HBj).size)); clear k1 k2))
      clear HIS HSD HPj HWj HBj HOPN HPi HWi HBi
      have hc0 := fa_epoch (unhide HPk)
      rw [unhide hep2] at hc0
      have HCE : Hid (Calls Tryz.prog 39 #[.pointer (some ⟨vc, 0, none⟩)] y11 fun r y => r = .returned (.int .i64 2) ∧ Below y11.heap.size y11 y) := hc0
      clear hc0
      go_upto_region 37 with (go_at_call 39; refine (unhide HCE).mono ?_; rintro r y12 ⟨rfl, hy⟩; have HPl := hide ((unhide HPk).below (obj_liveA Y (1 + 1) 1 0 vc A3) (obj_liveS X (1 + 1) 1 0 vt _) hy); have HWl := hide ((unhide HWk).below hy); have HBl := hide ((unhide HBk).trans (hy.mono (unhide HBk).size)); clear hy)
      clear HCE HPk HWk HBk
      have hc0 := fa_spool (unhide HPl) 2
      rw [unhide HSPL] at hc0
      have HC := hide hc0
      clear hc0
      unfold ptrTo at HC
      go_upto_region 38 with (go_at_call 26; refine (unhide HC).mono ?_; rintro r y13 ⟨lv1, rfl, ho, hy⟩; have HPm := hide ((unhide HPl).below (obj_liveA Y (1 + 1) 1 0 vc A3) (obj_liveS X (1 + 1) 1 0 vt _) hy); have HWm := hide ((unhide HWl).below hy); have HBm := hide ((unhide HBl).trans (hy.mono (unhide HBl).size)); obtain ⟨lad1, lcap1, rfl, _⟩ := listAt_own ho; rw [strs_length, digz_len] at ho ⊢; have HL1 := hide ho; have HY12 := hide hy.size; clear ho hy)
      have hwlt : ∀ g, (Value.slice wad j wcap).ownBlock = some g → g < y12.heap.size := fun g hg => (World.ownsRow.lt (unhide HWl).1 g hg).2
      have HWLT := hide hwlt
      clear hwlt HC HPl HWl HBl
      have hc0 := fs_log (unhide HPm) 2
      have hlg : skLogs { epoch := 0, logs := flg j, held := [] } 2 = digz j := (fsk_fact j (by omega)).2.2.2
      rw [hlg] at hc0
      have HC := hide hc0
      clear hc0 hlg
      unfold ptrTo at HC
      go_upto_region 39 with (go_at_call 32; refine (unhide HC).mono ?_; rintro r y14 ⟨lv2, rfl, ho, hy⟩; have HWn := hide ((unhide HWm).below hy); have HBn := hide ((unhide HBm).trans (hy.mono (unhide HBm).size)); have HL1n := hide (ownsRow_keepB (unhide HL1) (fun g hg => hy.block g (World.ownsRow.lt (unhide HL1) g hg).2)); have HY := hide hy; obtain ⟨lad2, lcap2, rfl, _⟩ := listAt_own ho; rw [strs_length, digz_len] at ho ⊢; have HL2 := hide ho; clear ho hy)
      clear HC HPm HWm HBm HL1
      have hxl : (strs (digz j)).length = j := by rw [strs_length, digz_len]
      obtain ⟨xs, hxs⟩ : ∃ xs, xs = strs (digz j) := ⟨_, rfl⟩
      have hrow0 := (unhide HWn).1
      rw [digz_len] at hrow0
      rw [← hxs] at hxl hrow0
      have HROW := hide hrow0
      have HXS := hide hxs
      clear hrow0 hxs
      go_upto_region 40 with (at_builtin; refine wpList_app1 rfl (.tmp 179) (.tmp 180) 45 rfl 9 _ 16 Tryz.underlying45 infoStr rfl (.slice wad j wcap) xs (by rw [hxl]; exact World.ownsRow.alloc (unhide HROW) _) rfl ⟨y14.heap.size, 0, none⟩ (.string ⟨#[108, 97, 115, 116]⟩) rfl (by simp) rfl (by omega) (by omega) ?_; intro v' w1 hown' hold happ; have HAPP := hide happ; have HOLD := hide hold; obtain ⟨ad2, cap2, rfl, _⟩ := (own_rowO hown').shape; clear happ hown' hold)
      have hF : Far (fun q => (Value.slice wad j wcap).ownBlock = some q) y14 w1 := by
        have hal : Below y14.heap.size y14 (y14.alloc (.cells #[.string ⟨#[108, 97, 115, 116]⟩] 9)) := (Below.refl _ _).alloc (Nat.le_refl _) _
        exact (far_below (E := fun q => (Value.slice wad j wcap).ownBlock = some q) hal).trans (far_grown (unhide HAPP).grown) (fun _ _ h => h)
      have l0 : ListAt w1 (.slice wad j wcap) (strs (digz j)) := by
        have := listAt_own (unhide HOLD)
        rw [unhide HXS] at this
        exact this
      have l1 := listAt_own (ownsRow_keepB (w' := w1) (unhide HL1n) (fun g hg => hF.rest g (World.ownsRow.lt (unhide HL1n) g hg).2 (fun e => by have := unhide HWLT g e; have := (World.ownsRow.lt (unhide HL1n) g hg).1; omega)))
      have l2 := listAt_own (ownsRow_keepB (w' := w1) (unhide HL2) (fun g hg => hF.rest g (World.ownsRow.lt (unhide HL2) g hg).2 (fun e => by have := unhide HWLT g e; have := (World.ownsRow.lt (unhide HL2) g hg).1; have := unhide HY12; omega)))
      have hz : (digz j).length ≤ 1000000000 := by rw [digz_len]; omega
      have hs1 := keepSame_any w1 _ _ _ _ l1 l0 hz
      have hs2 := fun q => keepSame_any (w1.drewN q) _ _ _ _ (show ListAt (w1.drewN q) _ _ from l2) (show ListAt (w1.drewN q) _ _ from l0) hz
      rw [show decide (digz j = digz j) = true by simp] at hs1 hs2
      have HS1 := hide hs1
      have HS2 := fun q => hide (hs2 q)
      have HBW : Hid (Below w.heap.size w w1) := (unhide HBn).trans (Far.below hF (unhide HBn).size (fun k hk e => by have := (unhide HWn).2 k e; omega))
      clear hs1 hs2 hz l0 l1 l2 hF HROW HXS hxl HAPP HOLD HWn HL1n HL2 HWLT HY HY12 HBn HSPL hep2
      go_upto_region 41 with (go_at_call 33; refine (unhide HS1).mono ?_; rintro r z1 ⟨rfl, q1, rfl⟩)
      go_wp2_with (go_at_call 33; refine (unhide (HS2 _)).mono ?_; rintro r z2 ⟨rfl, q2, rfl⟩)
      go_ret
      exact ⟨rfl, below_drewN (unhide HBW) _⟩
end Go.Proofs.YtamafdcnbcoegaaGreat
namespace Go.Proofs.YtamafdcnbcoegaaGreat
open Go.ChangeShapes Go.WideShapes Go.ChangeAt Go.RowKit

theorem Tryz.own : ownKnob Tryz.prog.godebug = none := by kernel_rfl
theorem Tryz.laidOut : laidOutB Tryz.prog = true := by kernel_rfl

theorem strCells : Tryz.prog.cellsOf 9 = 1 := by kernel_rfl

end Go.Proofs.YtamafdcnbcoegaaGreat
namespace Go.Proofs.YtamafdcnbcoegaaGreat
open Go.ChangeShapes Go.WideShapes Go.ChangeAt Go.RowKit

theorem i64_wf {n : Int} (h : (Lit.int .i64 n).wf = true) : -9223372036854775808 ≤ n ∧ n ≤ 9223372036854775807 := by
  simp only [Lit.wf, Bool.and_eq_true, decide_eq_true_eq] at h
  rw [show IntKind.i64.min = -9223372036854775808 from by decide, show IntKind.i64.max = 9223372036854775807 from by decide] at h
  exact h
/-- A number that came in. -/
theorem open_int {H : Type} {enc : TypeId × Value → H} {w : World} {base : Nat} {spare : Nat → Bool} {held : Bool} {v : Value} {d : DataW H} {p : List MemPlace}
    (h : DataW.Trod enc Tryz.prog w base spare held 3 v d p) (hv : ∃ n, v = .int .i64 n) : ∃ n : Int, v = .int .i64 n ∧ -9223372036854775808 ≤ n ∧ n ≤ 9223372036854775807 := by
  obtain ⟨n, rfl⟩ := hv
  obtain ⟨fuel, hf⟩ := h
  have hcs : (Value.int .i64 n).cells.toList = [.int .i64 n] := rfl
  rw [hcs] at hf
  obtain ⟨c, e, _, wf⟩ := DataW.trod_int Tryz.underlying3 hf
  simp at e
  subst e
  exact ⟨n, rfl, i64_wf wf⟩
end Go.Proofs.YtamafdcnbcoegaaGreat
namespace Go.Proofs.YtamafdcnbcoegaaGreat
open Go.ChangeShapes Go.WideShapes Go.ChangeAt Go.RowKit

theorem kept_wf {n : Int} (h : (Lit.int .u64 n).wf = true) : 0 ≤ n ∧ n ≤ 18446744073709551615 := by
  simp only [Lit.wf, Bool.and_eq_true, decide_eq_true_eq] at h
  rw [show IntKind.u64.min = 0 from by decide, show IntKind.u64.max = 18446744073709551615 from by decide] at h
  exact h
/-- A number of 64 bits that came in. -/
theorem open_kept {H : Type} {enc : TypeId × Value → H} {w : World} {base : Nat} {spare : Nat → Bool} {held : Bool} {v : Value} {d : DataW H} {p : List MemPlace}
    (h : DataW.Trod enc Tryz.prog w base spare held 27 v d p) (hv : ∃ n, v = .int .u64 n) : ∃ n : Int, v = .int .u64 n ∧ 0 ≤ n ∧ n ≤ 18446744073709551615 := by
  obtain ⟨n, rfl⟩ := hv
  obtain ⟨fuel, hf⟩ := h
  have hcs : (Value.int .u64 n).cells.toList = [.int .u64 n] := rfl
  rw [hcs] at hf
  obtain ⟨c, e, _, wf⟩ := DataW.trod_int Tryz.underlying27 hf
  simp at e
  subst e
  exact ⟨n, rfl, kept_wf wf⟩
set_option maxRecDepth 100000 in
theorem fails_lifted (Y : AgentF) (X : SinkX) (os : Os) (started : os.Started) (H : Type) (enc : TypeId × Value → H) :
    ReturnsInHanded {} Tryz.checked os 9 .any (Rows.failsSpec.pre6 enc Tryz.prog Tryz.f9 Rows.failsRow.domain false) (Rows.failsSpec.post enc Tryz.prog Tryz.f9 false true false false) := by
  refine returnsInHanded_of_change_sized (C := Tryz.checked) Tryz.own started (by kernel_rfl) Tryz.func9
    (ChangeSpec.witness6 (enc := enc) (C := Tryz.checked) false ⟨#[], #[.int .i64 0, .int .u64 0], []⟩ 8 (by kernel_rfl) (by kernel_rfl) (by kernel_rfl) (by kernel_rfl)) ?_
  intro W base args ds gs before hval0 hW hcnd hsz0 hholds
  have hval : ∀ (j : Nat) t v, Tryz.f9.params[j]? = some t → args[j]? = some v → Value.okWide Tryz.prog W .any base t v := hval0
  have hsz : (DataW.weightsEach Tryz.prog (Tryz.f9.params.toList ++ Rows.failsSpec.plain.varTypes Tryz.prog) (ds ++ gs)).all (· ≤ reachBytes) = true := hsz0
  have hW' := hW
  obtain ⟨p, q, hA0, hV, rfl, hfz, hnd⟩ := hW
  have hA : DataW.TrodAll enc Tryz.prog W 0 (fun _ => true) true Tryz.f9.params.toList args.toList ds p := hA0
  rw [Tryz.params9] at hA hval hsz
  obtain ⟨v0, vs0, d0, ds0, p0, q0, hargs, rfl, rfl, h0, r0⟩ := trodAll_cons hA
  obtain ⟨v1, vs1, d1, ds1, p1, q1, rfl, rfl, rfl, h1, r1⟩ := trodAll_cons r0
  obtain ⟨rfl, rfl, rfl⟩ := trodAll_nil r1
  obtain rfl : args = #[v0, v1] := by cases args; simp_all
  obtain ⟨rfl, rfl⟩ := trodVars_none hV
  have k0 := h0
  have k1 := h1
  have lt0 : ∀ x ∈ p0, x.block < W.heap.size := by obtain ⟨m, hm⟩ := k0; exact DataW.trod_lt m _ _ _ hm
  have lt1 : ∀ x ∈ p1, x.block < W.heap.size := by obtain ⟨m, hm⟩ := k1; exact DataW.trod_lt m _ _ _ hm
  obtain ⟨n0, rfl, hn0⟩ := open_int h0 (okWide_int Tryz.underlying3 (hval 0 3 v0 rfl rfl))
  obtain ⟨n1, rfl, hn1⟩ := open_kept h1 (okWide_int Tryz.underlying27 (hval 1 27 v1 rfl rfl))
  clear hA0 hval0 hsz0
  refine (fails_any Y X n0 n1 W hn0).mono fun e W' ⟨he, bel⟩ => ?_
  subst he
  exact ⟨_, rfl, _, _, _, [], _, [], hW', trodAll_mk1 (shut_bool Tryz.underlying4 _), (trodAll_cons_mk (Below.trod Tryz.laidOut (by kernel_rfl) (of_decide_eq_true (by kernel_rfl)) k0 bel lt0) (trodAll_cons_mk (Below.trod Tryz.laidOut (by kernel_rfl) (of_decide_eq_true (by kernel_rfl)) k1 bel lt1) trodAll_mk0)), rfl, bel.frame _, fun h => by cases h⟩

/-- Where the next write fails, for a program's ends that keep their contracts. -/
theorem fails_holds (Y : AgentF) (X : SinkX) : Rows.FailsSaid :=
  OpenClaim.holds_of_wide 9 Tryz.f9 rfl rfl rfl rfl rfl rfl rfl ⟨rfl, rfl, rfl, rfl, rfl⟩ rfl rfl rfl rfl rfl (by kernel_rfl) Tryz.func9 (by kernel_rfl)
    (of_decide_eq_true (by kernel_rfl)) (by unfold Func.isWrapper; rw [if_neg (by decide +kernel)]; exact ⟨rfl, rfl⟩)
    (fun os started H enc _ => fails_lifted Y X os started H enc)
end Go.Proofs.YtamafdcnbcoegaaGreat
