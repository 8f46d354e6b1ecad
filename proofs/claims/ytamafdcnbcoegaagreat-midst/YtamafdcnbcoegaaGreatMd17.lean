/-
  Part 17 of a proof: D25, B1, K30, K31, T6, K32, K33, U5, N1, T8, N2, N3, N5, V6, N8, P1, P2, Q1.
-/
import Derived.Deep.CutRange
import Derived.Test.YtamafdcnbcoegaaGreatMd16
namespace Go.Proofs.YtamafdcnbcoegaaGreat
open Go.RowKit
set_option maxRecDepth 100000 in
set_option maxHeartbeats 1000000 in
theorem diskImage_any {w : World} {p : Nat} {d : Mod.Dk} {lv uv : Value} (H : DkAt w p d lv uv) (keep : Int) :
  Calls Tryz.prog 144 #[ptrTo p, .int .u64 keep] w fun r w' => ∃ v', r = .returned v' ∧ Owns w.heap.size w' v' d.bytes ∧ Below w.heap.size w w' := by
 obtain ⟨ad, cap, hlv, _⟩ := (RowO.of_own H.row).shape
 obtain ⟨ud, ucap, huv, _⟩ := H.un.shape
 have hlen := H.len
 have hat : BytesAt w lv d.bytes := (show Owns 0 w lv d.bytes from H.row).at
 have HC := hide (cloneBytes_any w lv d.bytes hat (by omega) hlen.2)
 have c0 : w.cell? ⟨p, 0, none⟩ = some lv := blk_cell (i := 0) H.blk
 have c1 := blk_cell (i := 1) H.blk
 simp at c1
 rw [huv] at c1
 have hpl := lt_of_block H.blk
 rw [hlv] at c0 HC
 clear hat hlv huv H
 unfold ptrTo
 go_enter Tryz.func144, Tryz.ntmps144
 go_upto_region 2 with (go_at_call 192; refine (unhide HC).mono ?_; rintro r y ⟨v', rfl, hown, hb⟩; obtain ⟨vad, vcap, rfl, _⟩ := hown.shape)
 have c1 := (hb.cell (p := ⟨p, 1, none⟩) hpl).trans c1
 have HO := hide (And.intro hown hb)
 clear hown hb c0
 go_wp2
 go_loopw [6, 7, 18] (fun _ _ i wr => i = .int .i64 0 ∧ wr = y) (fun _ _ _ _ => 0)
 case atStart => exact ⟨rfl, rfl⟩
 case round =>
  obtain ⟨rfl, rfl⟩ := hrel
  go_wp2
  go_ret
  exact ⟨_, rfl, (unhide HO).1, (unhide HO).2⟩
theorem storeImage_any {w : World} {s dp : Nat} {st : Mod.Stv} {lv uv : Value} (H : StAt w s dp st lv uv) (keep : Int) :
  Calls Tryz.prog 99 #[ptrTo s, .int .u64 keep] w fun r w' => ∃ v', r = .returned v' ∧ Owns w.heap.size w' v' st.dk.bytes ∧ Below w.heap.size w w' := by
 have c0 : w.cell? ⟨s, 0, none⟩ = some (ptrTo dp) := blk_cell (i := 0) H.blk
 have HI := hide (diskImage_any H.dk keep)
 clear H
 unfold ptrTo at *
 go_enter Tryz.func99, Tryz.ntmps99
 go_wp2_with (go_at_call 144; refine (unhide HI).mono ?_; rintro r y ⟨v', rfl, hown, hb⟩; replace hown := hide hown; replace hb := hide hb)
 go_ret
 exact ⟨_, rfl, unhide hown, unhide hb⟩
theorem diskArm_any {w : World} {p : Nat} {d : Mod.Dk} {lv uv : Value} (H : DkAt w p d lv uv) (n : Int) (hn : n ≤ 9223372036854775807) :
  Calls Tryz.prog 145 #[ptrTo p, .int .i64 n] w fun r w' => r = .returned (.tuple #[]) ∧ DkAt w' p { d with armed := n.toNat } lv uv ∧ Far (fun k => k = p) w w' := by
 have HF := fun v => hide (blk_set (j := 2) (v := v) H.blk)
 have HH := hide H
 have f2 : w.frozen? ⟨p, 2, none⟩ = false := blk_free (i := 2) H.blk
 have c2 := blk_cell (i := 2) H.blk
 simp at c2
 clear H
 have key : ∀ m : Nat, m = n.toNat → DkAt (w.setCell ⟨p, 2, none⟩ (.int .i64 m)) p { d with armed := n.toNat } lv uv ∧ Far (fun k => k = p) w (w.setCell ⟨p, 2, none⟩ (.int .i64 m)) := by
  rintro m rfl
  have H := unhide HH
  have hset := far_set w p 2 (.int .i64 n.toNat)
  have h1 := unhide (HF (.int .i64 n.toNat))
  refine ⟨⟨?_, ownsRow_keepB H.row (fun g hg => hset.rest g (World.ownsRow.lt H.row g hg).2 (fun e => ?_)), H.un.far hset (fun g hg e => ?_), H.len, by show n.toNat ≤ _; omega⟩, hset⟩
  ·simpa using h1
  ·exact (RowO.of_own H.row).ne H.blk (by decide) (by rw [hg, e])
  ·exact H.un.ne H.blk (by decide) (by rw [hg, e])
 have KEY := hide key
 clear key HF HH
 by_cases h0 : (0 : Int) ≤ n
 ·have hm : max (0 : Int) n = n := by omega
  unfold ptrTo
  go_enter Tryz.func145, Tryz.ntmps145
  go_wp2
  obtain ⟨k1, k2⟩ := (unhide KEY) n.toNat rfl
  have hnn : ((n.toNat : Nat) : Int) = n := by omega
  rw [hnn] at k1 k2
  exact bodyPost_end (results_none rfl _ _ _) rfl ⟨rfl, k1, k2⟩
 ·have hm : max (0 : Int) n = 0 := by omega
  unfold ptrTo
  go_enter Tryz.func145, Tryz.ntmps145
  go_wp2
  obtain ⟨k1, k2⟩ := (unhide KEY) 0 (by omega)
  exact bodyPost_end (results_none rfl _ _ _) rfl ⟨rfl, k1, k2⟩
theorem storeArm_any {w : World} {s dp : Nat} {st : Mod.Stv} {lv uv : Value} (H : StAt w s dp st lv uv) (n : Int) (hn : n ≤ 9223372036854775807) :
  Calls Tryz.prog 101 #[ptrTo s, .int .i64 n] w fun r w' => r = .returned (.tuple #[]) ∧ StAt w' s dp { st with dk := { st.dk with armed := n.toNat } } lv uv ∧ Far (fun k => k = dp) w w' := by
 have c0 : w.cell? ⟨s, 0, none⟩ = some (ptrTo dp) := blk_cell (i := 0) H.blk
 have HI := hide (diskArm_any H.dk n hn)
 have HH := hide H
 clear H
 unfold ptrTo at *
 go_enter Tryz.func101, Tryz.ntmps101
 go_wp2_with (go_at_call 145; refine (unhide HI).mono ?_; rintro r y ⟨rfl, k1, k2⟩; replace k1 := hide k1; replace k2 := hide k2)
 have H := unhide HH
 have hne : s ≠ dp := fun e => H.sep (.inl e)
 exact bodyPost_end (results_none rfl _ _ _) rfl ⟨rfl, ⟨(unhide k2).blk H.blk hne, unhide k1, H.op, H.ct, H.hd⟩, unhide k2⟩
end Go.Proofs.YtamafdcnbcoegaaGreat
namespace Go.Proofs.YtamafdcnbcoegaaGreat
open Go.RowKit
set_option maxHeartbeats 1000000 in
theorem sinkImage_any {w : World} {p e : Nat} {logs : Nat → List ByteArray} {sh : Nat → List (Nat × Value)} {st : Mod.Stv} {c : Sv} (H : PkAt w p e logs sh st c) (keep : Int) :
  Calls Tryz.prog 59 #[ptrTo p, .int .u64 keep] w fun r w' => ∃ v', r = .returned v' ∧ Owns w.heap.size w' v' st.dk.bytes ∧ Below w.heap.size w w' := by
 have c0 : w.cell? ⟨p, 0, none⟩ = some (ptrTo c.s) := by rw [blk_cell H.ks.blk, H.ks.a0]
 have HI := hide (storeImage_any H.stt keep)
 clear H
 unfold ptrTo at *
 go_enter Tryz.func59, Tryz.ntmps59
 go_wp2_with (go_at_call 99; refine (unhide HI).mono ?_; rintro r y ⟨v', rfl, hown, hb⟩; replace hown := hide hown; replace hb := hide hb)
 go_ret
 exact ⟨_, rfl, unhide hown, unhide hb⟩
set_option maxHeartbeats 1000000 in
theorem csImageOf {w : World} {v p e : Nat} {logs : Nat → List ByteArray} {sh : Nat → List (Nat × Value)} {st : Mod.Stv} {c : Sv} (hb : w.heap[v]? = some (.cells #[ptrTo p] 93 (0, 0))) (H : PkAt w p e logs sh st c) (keep : Int) :
  Calls Tryz.prog 30 #[ptrTo v, .int .u64 keep] w fun r w' => ∃ v', r = .returned v' ∧ Owns w.heap.size w' v' st.dk.bytes ∧ Below w.heap.size w w' := by
 have c0 : w.cell? ⟨v, 0, none⟩ = some (ptrTo p) := blk_cell (i := 0) hb
 have HI := hide (sinkImage_any H keep)
 clear H hb
 unfold ptrTo at *
 go_enter Tryz.func30, Tryz.ntmps30
 go_wp2_with (go_at_call 59; refine (unhide HI).mono ?_; rintro r y ⟨v', rfl, hown, hb⟩; replace hown := hide hown; replace hb := hide hb)
 go_ret
 exact ⟨_, rfl, unhide hown, unhide hb⟩
set_option maxRecDepth 100000 in
set_option maxHeartbeats 4000000 in
theorem sinkDeliver_deaf {w : World} {p e : Nat} {logs : Nat → List ByteArray} {sh : Nat → List (Nat × Value)} {st : Mod.Stv} {c : Sv} (H : PkAt w p e logs sh st c) (hs : st.dk.dead = false) (bs : Value) (l : List UInt8) (hat : BytesAt w bs l) (hr : Wire.reads l = false) :
  Calls Tryz.prog 56 #[ptrTo p, bs] w fun r z => r = .returned (.tuple #[.slice none 0 0, .int .i64 1]) ∧ Below w.heap.size w z := by
 have c0 : w.cell? ⟨p, 0, none⟩ = some (ptrTo c.s) := by rw [blk_cell H.ks.blk, H.ks.a0]
 have hID := storeIsDead_any H.stt
 rw [hs] at hID
 have HID := hide hID
 have hDC := decode_any bs l w hat
 rw [hr] at hDC
 simp only [Bool.false_eq_true, if_false, zeroFr] at hDC
 have HDC := hide hDC
 clear H hID hDC
 unfold ptrTo at *
 go_enter Tryz.func56, Tryz.ntmps56
 go_wp2_with (first | (go_at_call 86; refine (unhide HID).mono ?_; rintro r y ⟨rfl, rfl⟩) | (go_at_call 54; refine (unhide HDC).mono ?_; rintro r y ⟨rfl, hb⟩; replace hb := hide hb))
 go_ret2
 exact ⟨rfl, (unhide hb).alloc (unhide hb).size _⟩
end Go.Proofs.YtamafdcnbcoegaaGreat
namespace Go.Proofs.YtamafdcnbcoegaaGreat
open Go.RowKit
def skWr (a : Mod.Sk) (k e : Int) (s q : Nat) (b : ByteArray) : Nat :=
 if k = 1 then (if e < a.epoch then 0 else hiW a e.toNat) else if k = 3 then (if e = a.epoch then (a.commits 3 a.epoch s q b).length else 0) else 0
def skW (a : Mod.Sk) (l : List UInt8) : Nat := if Wire.reads l = true then skWr a (Wire.kindOf l) (Wire.epochOf l) (Wire.streamOf l).toNat (Wire.seqOf l).toNat (Wire.bodyOf l) else 0
def skBadR (a : Mod.Sk) (k : Int) (s q : Nat) (b : ByteArray) (n : Nat) : Nat → List ByteArray := if k = 3 then (grown a s ((a.commits 3 a.epoch s q b).take (n - 1))).logs else a.logs
def skBad (a : Mod.Sk) (l : List UInt8) (n : Nat) : Nat → List ByteArray := skBadR a (Wire.kindOf l) (Wire.streamOf l).toNat (Wire.seqOf l).toNat (Wire.bodyOf l) n
theorem skW_yes {a : Mod.Sk} {l : List UInt8} (hr : Wire.reads l = true) {k : Int} {e s q : Nat} {b : ByteArray} (h1 : Wire.kindOf l = k) (h2 : Wire.epochOf l = e) (h3 : Wire.streamOf l = s) (h4 : Wire.seqOf l = q) (h5 : Wire.bodyOf l = b) :
  skW a l = skWr a k e s q b ∧ ∀ n, skBad a l n = skBadR a k s q b n := by
 unfold skW skBad
 rw [hr, h1, h2, h3, h4, h5]
 exact ⟨rfl, fun _ => rfl⟩
theorem skW_no {a : Mod.Sk} {l : List UInt8} (hr : Wire.reads l = false) : skW a l = 0 := by
 unfold skW
 rw [hr]
 rfl
theorem skW_0 {a : Mod.Sk} {l : List UInt8} {n : Nat} (hr : Wire.reads l = false) (hn : 1 ≤ n ∧ n ≤ skW a l) : False := by
 rw [skW_no hr] at hn
 omega
theorem sinkDeliver_ok {op ct n : Nat} {w : World} {p : Nat} {a : Mod.Sk} {sh : Nat → List (Nat × Value)} {st : Mod.Stv} {c : Sv} (H : PkAt w p a.epoch a.logs sh st c) (hs : Alv op ct n st a.epoch a.logs) (hct : ct + 1000 < 18446744073709551616) (G : SkGood a) (M : SkMore a) (O : OnSh a.held sh) (bs : Value) (l : List UInt8) (hat : BytesAt w bs l) (hn : n = 0 ∨ skW a l < n) :
  Calls Tryz.prog 56 #[ptrTo p, bs] w fun r z => DlR (fun u x => SkIs2 op (ct + skW a l) (n - skW a l) u x p (skSays a l).2.1 c) w z (skSays a l).1 r (skSays a l).2.2 := by
 cases hr : Wire.reads l
 ·rw [skSays_no hr, skW_no hr]
  refine (sinkDeliver_deaf H hs.dead bs l hat hr).mono ?_
  rintro r z ⟨rfl, hb⟩
  exact ⟨_, [], w, rfl, skIs2_refl H hs O, hb, framesOut_none _ _⟩
 ·obtain ⟨k, e, s, q, b, h1, h2, h3, h4, h5, g1, g2, g3, g4⟩ := reads_parts hr
  rw [skSays_yes hr h1 h2 h3 h4 h5]
  rw [(skW_yes hr h1 h2 h3 h4 h5).1] at hn ⊢
  have hDec : ∀ y, Below w.heap.size w y → Calls Tryz.prog 54 #[bs] y fun r z => r = .returned (.tuple #[.agg #[.int .i64 k, .int .i64 e, .int .i64 s, .int .i64 q, .string b], .int .i64 0]) ∧ Below y.heap.size y z := fun y hy => by
   have := decode_any bs l y (hat.below hy)
   rw [hr] at this
   simp only [if_true, frVal, h1, h2, h3, h4, h5] at this
   exact this
  have HY := fun y (hy : Below w.heap.size w y) => H.far (far_below (E := fun _ => False) hy) (fun _ _ h => h)
  have n0 := H.ks.loglen (i := 0) (by omega)
  have n1 := H.ks.loglen (i := 1) (by omega)
  have n2 := H.ks.loglen (i := 2) (by omega)
  have hep := H.ks.ep
  have hbeh : ∀ {ct' n' : Nat} {a2 : Mod.Sk} {u v z : World}, SkIs2 op ct' n' v z p a2 c → Below u.heap.size u v → SkIs2 op ct' n' u z p a2 c := fun h hb => SkIs2.behind h hb
  unfold skReply
  unfold skWr at hn ⊢
  by_cases k1 : k = 1
  ·simp only [if_pos k1] at hn ⊢
   by_cases hlt : (e : Int) < a.epoch
   ·simp only [if_pos hlt] at hn ⊢
    refine sinkDeliverH_R (R := (fun u x => SkIs2 op (ct + 0) (n - 0) u x p a c)) H hs.dead bs (fun h hb => hbeh h hb) k e s q b k1 hDec (fun y hy => ?_)
    subst k1
    refine answerByH_okR (w := y) (R := (fun u x => SkIs2 op (ct + 0) (n - 0) u x p a c)) (fun h hb => hbeh h hb) 1 1 e s q b 5 a.epoch 0 0 ⟨#[]⟩ (fence_proper _ hep) (fun z hz => ?_)
    have hwz : Below w.heap.size w z := hy.trans (hz.mono hy.size)
    refine (answerHello_old (HY z hwz) e s q b (by omega)).mono ?_
    rintro r u ⟨rfl, hb⟩
    exact ⟨rfl, (skIs2_refl (HY z hwz) hs O).below hb⟩
   ·simp only [if_neg hlt] at hn ⊢
    have hE : (e : Int).toNat = e := by omega
    rw [hE] at hn ⊢
    refine sinkDeliverH_R (R := (fun u x => SkIs2 op (ct + hiW a e) (n - hiW a e) u x p (helloIt a e) c)) H hs.dead bs (fun h hb => hbeh h hb) k e s q b k1 hDec (fun y hy => ?_)
    subst k1
    refine answerByH_okR (w := y) (R := (fun u x => SkIs2 op (ct + hiW a e) (n - hiW a e) u x p (helloIt a e) c)) (fun h hb => hbeh h hb) 1 1 e s q b 2 e 0 0 (welB a) (wel_proper g1 n0 n1 n2) (fun z hz => ?_)
    have hwz : Below w.heap.size w z := hy.trans (hz.mono hy.size)
    exact answerHello_ok (HY z hwz) hs hct O e s q b (by omega) g1 hn
  ·simp only [if_neg k1] at hn ⊢
   by_cases k3 : k = 3
   ·simp only [if_pos k3] at hn ⊢
    by_cases he : (e : Int) = a.epoch
    ·simp only [if_pos he] at hn ⊢
     have he' : e = a.epoch := by omega
     subst k3
     rw [he] at hDec ⊢
     refine sinkDeliverD_R (R := (fun u x => SkIs2 op (ct + (a.commits 3 a.epoch s q b).length) (n - (a.commits 3 a.epoch s q b).length) u x p (skAfter a 3 a.epoch s q b) c)) H hs.dead bs (fun h hb => hbeh h hb) 3 a.epoch s q b rfl hDec (fun y hy => ?_)
     have hR := skGood_reply G 3 a.epoch s q b g2 (by omega)
     refine answerByD_okR (w := y) (R := (fun u x => SkIs2 op (ct + (a.commits 3 a.epoch s q b).length) (n - (a.commits 3 a.epoch s q b).length) u x p (skAfter a 3 a.epoch s q b) c)) (fun h hb => hbeh h hb) 3 3 a.epoch s q b 4 a.epoch s _ _ ?_ (fun z hz => ?_)
     ·have hepE : (skAfter a 3 a.epoch s q b).epoch = a.epoch := by
       unfold skAfter
       split
       ·exact holdIt_epoch _ _ _ _
       ·rfl
      have hG : SkGood (skAfter a 3 a.epoch s q b) := by
       unfold skReply at hR
       rw [if_neg (by omega), if_pos rfl, if_pos rfl] at hR
       exact hR
      have hc := count_len (a := skAfter a 3 a.epoch s q b) g2
      have hrm := hG.room
      have := ack_proper (a := skAfter a 3 a.epoch s q b) (s := s) (up := ((skAfter a 3 a.epoch s q b).logs s).length) hG.ep g2 (by omega)
      rw [hepE] at this
      exact this
     ·have hwz : Below w.heap.size w z := hy.trans (hz.mono hy.size)
      exact answerData_ok (HY z hwz) hs hct G M O s q g2 g3 b g4 hn
    ·simp only [if_neg he] at hn ⊢
     have hE : max (e : Int).toNat a.epoch = max e a.epoch := rfl
     rw [hE]
     subst k3
     refine sinkDeliverD_R (R := (fun u x => SkIs2 op (ct + 0) (n - 0) u x p a c)) H hs.dead bs (fun h hb => hbeh h hb) 3 e s q b rfl hDec (fun y hy => ?_)
     refine answerByD_okR (w := y) (R := (fun u x => SkIs2 op (ct + 0) (n - 0) u x p a c)) (fun h hb => hbeh h hb) 3 3 e s q b 5 (max e a.epoch : Nat) 0 0 ⟨#[]⟩ (fence_proper _ (by omega)) (fun z hz => ?_)
     have hwz : Below w.heap.size w z := hy.trans (hz.mono hy.size)
     refine (answerData_other (HY z hwz) e s q b (by omega)).mono ?_
     rintro r u ⟨rfl, hb⟩
     exact ⟨rfl, (skIs2_refl (HY z hwz) hs O).below hb⟩
   ·simp only [if_neg k3] at hn ⊢
    exact sinkDeliverN_R (R := fun u x => SkIs2 op (ct + 0) (n - 0) u x p a c) H hs.dead (skIs2_refl H hs O) bs k e s q b k1 k3 hDec
theorem sinkDeliver_bad {op ct n : Nat} {w : World} {p : Nat} {a : Mod.Sk} {sh : Nat → List (Nat × Value)} {st : Mod.Stv} {c : Sv} (H : PkAt w p a.epoch a.logs sh st c) (hs : Alv op ct n st a.epoch a.logs) (hct : ct + 1000 < 18446744073709551616) (G : SkGood a) (M : SkMore a) (O : OnSh a.held sh) (bs : Value) (l : List UInt8) (hat : BytesAt w bs l) (hn : 1 ≤ n ∧ n ≤ skW a l) :
  Calls Tryz.prog 56 #[ptrTo p, bs] w fun r z => DlR (fun u x => DeadAt op u x p a.epoch (skBad a l n) c) w z 4 r [] := by
 cases hr : Wire.reads l
 ·exact (skW_0 hr hn).elim
 ·obtain ⟨k, e, s, q, b, h1, h2, h3, h4, h5, g1, g2, g3, g4⟩ := reads_parts hr
  rw [(skW_yes hr h1 h2 h3 h4 h5).1] at hn
  rw [(skW_yes hr h1 h2 h3 h4 h5).2]
  have hDec : ∀ y, Below w.heap.size w y → Calls Tryz.prog 54 #[bs] y fun r z => r = .returned (.tuple #[.agg #[.int .i64 k, .int .i64 e, .int .i64 s, .int .i64 q, .string b], .int .i64 0]) ∧ Below y.heap.size y z := fun y hy => by
   have := decode_any bs l y (hat.below hy)
   rw [hr] at this
   simp only [if_true, frVal, h1, h2, h3, h4, h5] at this
   exact this
  have HY := fun y (hy : Below w.heap.size w y) => H.far (far_below (E := fun _ => False) hy) (fun _ _ h => h)
  have hbeh : ∀ {e2 : Nat} {lg : Nat → List ByteArray} {u v z : World}, DeadAt op v z p e2 lg c → Below u.heap.size u v → DeadAt op u z p e2 lg c := fun h hb => DeadAt.behind h hb
  unfold skBadR
  unfold skWr at hn
  by_cases k1 : k = 1
  ·rw [if_neg (by omega)]
   rw [if_pos k1] at hn
   by_cases hlt : (e : Int) < a.epoch
   ·rw [if_pos hlt] at hn
    omega
   ·rw [if_neg hlt] at hn
    have hE : (e : Int).toNat = e := by omega
    rw [hE] at hn
    refine sinkDeliverH_R (R := (fun u x => DeadAt op u x p a.epoch a.logs c)) H hs.dead bs (fun h hb => hbeh h hb) k e s q b k1 hDec (fun y hy => ?_)
    subst k1
    refine answerByH_badR (w := y) (R := (fun u x => DeadAt op u x p a.epoch a.logs c)) (fun h hb => hbeh h hb) 1 1 e s q b (fun z hz => ?_)
    have hwz : Below w.heap.size w z := hy.trans (hz.mono hy.size)
    exact answerHello_bad (HY z hwz) hs hct O e s q b (by omega) g1 hn
  ·rw [if_neg k1] at hn
   by_cases k3 : k = 3
   ·rw [if_pos k3] at hn ⊢
    by_cases he : (e : Int) = a.epoch
    ·rw [if_pos he] at hn
     subst k3
     rw [he] at hDec
     refine sinkDeliverD_R (R := (fun u x => DeadAt op u x p a.epoch (grown a s ((a.commits 3 a.epoch s q b).take (n - 1))).logs c)) H hs.dead bs (fun h hb => hbeh h hb) 3 a.epoch s q b rfl hDec (fun y hy => ?_)
     refine answerByD_badR (w := y) (R := (fun u x => DeadAt op u x p a.epoch (grown a s ((a.commits 3 a.epoch s q b).take (n - 1))).logs c)) (fun h hb => hbeh h hb) 3 3 a.epoch s q b (fun z hz => ?_)
     have hwz : Below w.heap.size w z := hy.trans (hz.mono hy.size)
     exact answerData_bad (HY z hwz) hs hct G M O s q g2 g3 b g4 hn
    ·rw [if_neg he] at hn
     omega
   ·rw [if_neg k3] at hn
    omega
end Go.Proofs.YtamafdcnbcoegaaGreat
namespace Go.Proofs.YtamafdcnbcoegaaGreat
open Go.RowKit
set_option maxHeartbeats 1000000 in
theorem sinkLog_live {w : World} {p e : Nat} {logs : Nat → List ByteArray} {sh : Nat → List (Nat × Value)} {st : Mod.Stv} {c : Sv} (H : PkAt w p e logs sh st c) (hs : st.dk.dead = false) (i : Int) :
  Calls Tryz.prog 60 #[ptrTo p, .int .i64 i] w fun r w' =>
   ∃ lv, r = .returned lv ∧ w'.ownsRow w.heap.size 9 1 lv (if 0 ≤ i ∧ i < 3 then logs i.toNat else []).length (strs (if 0 ≤ i ∧ i < 3 then logs i.toNat else [])) ∧ Below w.heap.size w w' := by
 have c0 : w.cell? ⟨p, 0, none⟩ = some (ptrTo c.s) := by rw [blk_cell H.ks.blk, H.ks.a0]
 have hID := storeIsDead_any H.stt
 rw [hs] at hID
 have HID := hide hID
 by_cases h : 0 ≤ i ∧ i < 3
 ·rw [if_pos h]
  obtain ⟨n, rfl⟩ := Int.eq_ofNat_of_zero_le h.1
  obtain ⟨h0, h3⟩ := h
  have hn3 : n < 3 := by omega
  obtain ⟨ad, cap, hlv, clog⟩ := H.ks.logc hn3
  have hrow := H.ks.lgs n hn3
  rw [hlv] at hrow
  have HCL := hide (cloneStrs_any hrow (by have := H.ks.loglen hn3; omega))
  have hst : Wire.isStr (n : Int) = true := by simp [Wire.isStr]; omega
  have hIS := isStream_any (n : Int) w
  rw [hst] at hIS
  have HIS := hide hIS
  have hnn : ((n : Int)).toNat = n := by omega
  rw [hnn]
  obtain ⟨m, hm⟩ : ∃ m, m = (logs n).length := ⟨_, rfl⟩
  obtain ⟨xs, hxs⟩ : ∃ xs, xs = strs (logs n) := ⟨_, rfl⟩
  rw [← hm, ← hxs] at HCL ⊢
  rw [← hm] at clog
  clear H hID hrow hlv hIS hst hnn hm hxs
  unfold ptrTo at *
  go_enter Tryz.func60, Tryz.ntmps60
  go_wp2_with (first | (go_at_call 87; refine (unhide HIS).mono ?_; rintro r y ⟨rfl, hyw⟩; obtain rfl : w = y := hyw.symm) | (go_at_call 86; refine (unhide HID).mono ?_; rintro r y ⟨rfl, hyw⟩; obtain rfl : w = y := hyw.symm) | (go_at_call 100; refine (unhide HCL).mono ?_; rintro r y ⟨v', rfl, ho, hb⟩; replace ho := hide ho; replace hb := hide hb))
  go_ret
  exact ⟨v', rfl, unhide ho, unhide hb⟩
 ·rw [if_neg h]
  have hst : Wire.isStr i = false := by
   cases hc : Wire.isStr i
   ·rfl
   ·simp [Wire.isStr] at hc; omega
  have hIS := isStream_any i w
  rw [hst] at hIS
  have HIS := hide hIS
  clear H hID hIS hst h
  unfold ptrTo at *
  go_enter Tryz.func60, Tryz.ntmps60
  go_wp2_with (go_at_call 87; refine (unhide HIS).mono ?_; rintro r y ⟨rfl, hyw⟩; obtain rfl : w = y := hyw.symm)
  go_ret
  exact ⟨_, rfl, World.ownsRow_nil _ _ _ _, Below.refl _ _⟩
set_option maxHeartbeats 1000000 in
theorem sinkLog_dead {w : World} {p e : Nat} {logs : Nat → List ByteArray} {sh : Nat → List (Nat × Value)} {st : Mod.Stv} {c : Sv} (H : PkAt w p e logs sh st c) (hs : st.dk.dead = true) (i : Int) :
  Calls Tryz.prog 60 #[ptrTo p, .int .i64 i] w fun r w' => r = .returned (.slice none 0 0) ∧ w' = w := by
 have c0 : w.cell? ⟨p, 0, none⟩ = some (ptrTo c.s) := by rw [blk_cell H.ks.blk, H.ks.a0]
 have hID := storeIsDead_any H.stt
 rw [hs] at hID
 have HID := hide hID
 have hIS := isStream_any i w
 cases hst : Wire.isStr i with
 | true =>
  rw [hst] at hIS
  have HIS := hide hIS
  clear H hID hIS hst
  unfold ptrTo at *
  go_enter Tryz.func60, Tryz.ntmps60
  go_wp2_with (first | (go_at_call 87; refine (unhide HIS).mono ?_; rintro r y ⟨rfl, hyw⟩; obtain rfl : w = y := hyw.symm) | (go_at_call 86; refine (unhide HID).mono ?_; rintro r y ⟨rfl, hyw⟩; obtain rfl : w = y := hyw.symm))
  go_ret
  exact ⟨rfl, rfl⟩
 | false =>
  rw [hst] at hIS
  have HIS := hide hIS
  clear H hID hIS hst
  unfold ptrTo at *
  go_enter Tryz.func60, Tryz.ntmps60
  go_wp2_with (go_at_call 87; refine (unhide HIS).mono ?_; rintro r y ⟨rfl, hyw⟩; obtain rfl : w = y := hyw.symm)
  go_ret
  exact ⟨rfl, rfl⟩
set_option maxHeartbeats 1000000 in
theorem sinkDeliver_dead {w : World} {p e : Nat} {logs : Nat → List ByteArray} {sh : Nat → List (Nat × Value)} {st : Mod.Stv} {c : Sv} (H : PkAt w p e logs sh st c) (hs : st.dk.dead = true) (bs : Value) :
  Calls Tryz.prog 56 #[ptrTo p, bs] w fun r w' => r = .returned (.tuple #[.slice none 0 0, .int .i64 3]) ∧ w' = w := by
 have c0 : w.cell? ⟨p, 0, none⟩ = some (ptrTo c.s) := by rw [blk_cell H.ks.blk, H.ks.a0]
 have hID := storeIsDead_any H.stt
 rw [hs] at hID
 have HID := hide hID
 clear H hID
 unfold ptrTo at *
 go_enter Tryz.func56, Tryz.ntmps56
 go_wp2_with (go_at_call 86; refine (unhide HID).mono ?_; rintro r y ⟨rfl, hyw⟩; obtain rfl : w = y := hyw.symm)
 go_ret2
 exact ⟨rfl, rfl⟩
set_option maxHeartbeats 1000000 in
theorem sinkArm_any {w : World} {p e : Nat} {logs : Nat → List ByteArray} {sh : Nat → List (Nat × Value)} {st : Mod.Stv} {c : Sv} (H : PkAt w p e logs sh st c) (n : Int) (hn : n ≤ 9223372036854775807) :
  Calls Tryz.prog 62 #[ptrTo p, .int .i64 n] w fun r w' => r = .returned (.tuple #[]) ∧ PkAt w' p e logs sh { st with dk := { st.dk with armed := n.toNat } } c ∧ Far (fun k => k = c.dp) w w' := by
 have c0 : w.cell? ⟨p, 0, none⟩ = some (ptrTo c.s) := by rw [blk_cell H.ks.blk, H.ks.a0]
 have HA := hide (storeArm_any H.stt n hn)
 have HH := hide H
 clear H
 unfold ptrTo at *
 go_enter Tryz.func62, Tryz.ntmps62
 go_wp2_with (go_at_call 101; refine (unhide HA).mono ?_; rintro r y ⟨rfl, k1, k2⟩; replace k1 := hide k1; replace k2 := hide k2)
 have H := unhide HH
 exact bodyPost_end (results_none rfl _ _ _) rfl ⟨rfl, ⟨H.ks.far (unhide k2) (fun k hk e => H.sep k hk (by rw [e]; exact .inr (.inl rfl))), unhide k1, H.rl.far (unhide k2) (fun g hg e => (H.sepr g hg).2 (by rw [e]; exact .inr (.inl rfl))), H.len⟩, unhide k2⟩
end Go.Proofs.YtamafdcnbcoegaaGreat
namespace Go.Proofs.YtamafdcnbcoegaaGreat
open Go.RowKit
def skLogs (a : Mod.Sk) (i : Int) : List ByteArray := if 0 ≤ i ∧ i < 3 then a.logs i.toNat else []
end Go.Proofs.YtamafdcnbcoegaaGreat
namespace Go.Proofs.YtamafdcnbcoegaaGreat
open Go.RowKit
def CxAt (op ct n : Nat) (w : World) (v : Nat) (a : Mod.Sk) (U : Nat → Prop) : Prop :=
 ∃ p sh st c, w.heap[v]? = some (.cells #[ptrTo p] 93 (0, 0)) ∧ PkAt w p a.epoch a.logs sh st c ∧ Alv op ct n st a.epoch a.logs ∧ OnSh a.held sh ∧ SkMore a ∧ U = fun k => k = v ∨ PkU p c k
def CdAt (op : Nat) (w : World) (v : Nat) (e : Nat) (logs : Nat → List ByteArray) (U : Nat → Prop) : Prop :=
 ∃ p sh st c, w.heap[v]? = some (.cells #[ptrTo p] 93 (0, 0)) ∧ PkAt w p e logs sh st c ∧ Ded op st e logs ∧ U = fun k => k = v ∨ PkU p c k
structure SinkX where
 At : (op ct n : Nat) → World → Nat → Mod.Sk → (Nat → Prop) → Prop
 Dd : Nat → World → Nat → Nat → (Nat → List ByteArray) → (Nat → Prop) → Prop
 lt : ∀ {op ct n w v a U}, At op ct n w v a U → ∀ k, U k → k < w.heap.size
 far : ∀ {op ct n w w' v a U E}, At op ct n w v a U → Far E w w' → (∀ k, U k → ¬ E k) → At op ct n w' v a U
 ltD : ∀ {op w v e lg U}, Dd op w v e lg U → ∀ k, U k → k < w.heap.size
 farD : ∀ {op w w' v e lg U E}, Dd op w v e lg U → Far E w w' → (∀ k, U k → ¬ E k) → Dd op w' v e lg U
 ok : ∀ {op ct n w v a U} (bs : Value) (l : List UInt8), At op ct n w v a U → ct + 1000 < 18446744073709551616 → SkGood a → BytesAt w bs l → (n = 0 ∨ skW a l < n) → Calls Tryz.prog 27 #[ptrTo v, bs] w fun r w' =>
  ∃ lv fs U', r = .returned (.tuple #[lv, .int .i64 (skSays a l).1]) ∧ FramesOut w.heap.size w' lv fs (skSays a l).2.2 U' ∧ At op (ct + skW a l) (n - skW a l) w' v (skSays a l).2.1 U' ∧ Far U w w' ∧ ∀ k, U' k → U k ∨ w.heap.size ≤ k
 bad : ∀ {op ct n w v a U} (bs : Value) (l : List UInt8), At op ct n w v a U → ct + 1000 < 18446744073709551616 → SkGood a → BytesAt w bs l → 1 ≤ n ∧ n ≤ skW a l → Calls Tryz.prog 27 #[ptrTo v, bs] w fun r w' =>
  ∃ lv fs U', r = .returned (.tuple #[lv, .int .i64 4]) ∧ FramesOut w.heap.size w' lv fs [] U' ∧ Dd op w' v a.epoch (skBad a l n) U' ∧ Far U w w' ∧ ∀ k, U' k → U k ∨ w.heap.size ≤ k
 dead : ∀ {op w v e lg U} (bs : Value), Dd op w v e lg U → Calls Tryz.prog 27 #[ptrTo v, bs] w fun r w' => r = .returned (.tuple #[.slice none 0 0, .int .i64 3]) ∧ w' = w
 epoch : ∀ {op ct n w v a U}, At op ct n w v a U → Calls Tryz.prog 42 #[ptrTo v] w fun r w' => r = .returned (.int .i64 a.epoch) ∧ w' = w
 log : ∀ {op ct n w v a U} (i : Int), At op ct n w v a U → Calls Tryz.prog 32 #[ptrTo v, .int .i64 i] w fun r w' =>
  ∃ lv, r = .returned lv ∧ w'.ownsRow w.heap.size 9 1 lv (skLogs a i).length (strs (skLogs a i)) ∧ Below w.heap.size w w'
 logD : ∀ {op w v e lg U} (i : Int), Dd op w v e lg U → Calls Tryz.prog 32 #[ptrTo v, .int .i64 i] w fun r w' => r = .returned (.slice none 0 0) ∧ w' = w
 arm : ∀ {op ct n w v a U} (m : Int), At op ct n w v a U → m ≤ 9223372036854775807 → Calls Tryz.prog 35 #[ptrTo v, .int .i64 m] w fun r w' => r = .returned (.tuple #[]) ∧ At op ct m.toNat w' v a U ∧ Far U w w'
 armD : ∀ {op w v e lg U} (m : Int), Dd op w v e lg U → m ≤ 9223372036854775807 → Calls Tryz.prog 35 #[ptrTo v, .int .i64 m] w fun r w' => r = .returned (.tuple #[]) ∧ Dd op w' v e lg U ∧ Far U w w'
 img : ∀ {op ct n w v a U}, At op ct n w v a U → ∃ (L : List UInt8) (c2 hd : Nat), Mod.SkDisk L op c2 hd a.epoch a.logs ∧ ∀ x, Below w.heap.size w x → ∀ keep : Int,
  Calls Tryz.prog 30 #[ptrTo v, .int .u64 keep] x fun r y => ∃ v', r = .returned v' ∧ Owns x.heap.size y v' L ∧ Below x.heap.size x y
 imgD : ∀ {op w v e lg U}, Dd op w v e lg U → ∃ (L : List UInt8) (c2 hd : Nat), Mod.SkDisk L op c2 hd e lg ∧ ∀ x, Below w.heap.size w x → ∀ keep : Int,
  Calls Tryz.prog 30 #[ptrTo v, .int .u64 keep] x fun r y => ∃ v', r = .returned v' ∧ Owns x.heap.size y v' L ∧ Below x.heap.size x y
 opened : ∀ {w} (bs : Value) (L : List UInt8) {op c2 hd e : Nat} {lg : Nat → List ByteArray}, BytesAt w bs L → Mod.SkDisk L op c2 hd e lg → op ≤ 1073741824 → Calls Tryz.prog 38 #[bs] w fun r w' =>
  ∃ v U, r = .returned (.tuple #[ptrTo v, .int .i64 0]) ∧ At (op + 1) 1 0 w' v { epoch := e, logs := lg, held := [] } U ∧ Below w.heap.size w w' ∧ ∀ k, U k → w.heap.size ≤ k
 zero : ∀ {w} (bs : Value), BytesAt w bs (List.replicate 7808 0) → Calls Tryz.prog 38 #[bs] w fun r w' =>
  ∃ v U, r = .returned (.tuple #[ptrTo v, .int .i64 0]) ∧ At 1 1 0 w' v { epoch := 0, logs := fun _ => [], held := [] } U ∧ Below w.heap.size w w' ∧ ∀ k, U k → w.heap.size ≤ k
section
variable {op ct n : Nat} {w w' : World} {v : Nat} {a : Mod.Sk} {U : Nat → Prop} {e : Nat} {lg : Nat → List ByteArray}
theorem cxAt_lt (h : CxAt op ct n w v a U) : ∀ k, U k → k < w.heap.size := by
 obtain ⟨p, sh, st, c, hb, H, _, _, _, rfl⟩ := h
 rintro k (rfl | hk)
 ·exact lt_of_block hb
 ·exact H.lt k hk
theorem cxAt_far {E : Nat → Prop} (h : CxAt op ct n w v a U) (hf : Far E w w') (hE : ∀ k, U k → ¬ E k) : CxAt op ct n w' v a U := by
 obtain ⟨p, sh, st, c, hb, H, h1, h2, h3, rfl⟩ := h
 exact ⟨p, sh, st, c, hf.blk hb (hE v (.inl rfl)), H.far hf (fun k hk => hE k (.inr hk)), h1, h2, h3, rfl⟩
theorem cdAt_lt (h : CdAt op w v e lg U) : ∀ k, U k → k < w.heap.size := by
 obtain ⟨p, sh, st, c, hb, H, _, rfl⟩ := h
 rintro k (rfl | hk)
 ·exact lt_of_block hb
 ·exact H.lt k hk
theorem cdAt_far {E : Nat → Prop} (h : CdAt op w v e lg U) (hf : Far E w w') (hE : ∀ k, U k → ¬ E k) : CdAt op w' v e lg U := by
 obtain ⟨p, sh, st, c, hb, H, h1, rfl⟩ := h
 exact ⟨p, sh, st, c, hf.blk hb (hE v (.inl rfl)), H.far hf (fun k hk => hE k (.inr hk)), h1, rfl⟩
set_option maxHeartbeats 1000000 in
theorem cxDeliver_ok (bs : Value) (l : List UInt8) (h : CxAt op ct n w v a U) (hct : ct + 1000 < 18446744073709551616) (G : SkGood a) (hat : BytesAt w bs l) (hn : n = 0 ∨ skW a l < n) :
  Calls Tryz.prog 27 #[ptrTo v, bs] w fun r w' =>
   ∃ lv fs U', r = .returned (.tuple #[lv, .int .i64 (skSays a l).1]) ∧ FramesOut w.heap.size w' lv fs (skSays a l).2.2 U' ∧ CxAt op (ct + skW a l) (n - skW a l) w' v (skSays a l).2.1 U' ∧ Far U w w' ∧ ∀ k, U' k → U k ∨ w.heap.size ≤ k := by
 obtain ⟨p, sh, st, c, hb, H, hs, O, M, rfl⟩ := h
 have c0 : w.cell? ⟨v, 0, none⟩ = some (ptrTo p) := blk_cell (i := 0) hb
 have HD := hide (sinkDeliver_ok H hs hct G M O bs l hat hn)
 have hM := skMore_says M l
 obtain ⟨a2, ha2⟩ : ∃ a2, a2 = (skSays a l).2.1 := ⟨_, rfl⟩
 obtain ⟨er, her⟩ : ∃ er, er = (skSays a l).1 := ⟨_, rfl⟩
 obtain ⟨Fl, hFl⟩ : ∃ Fl, Fl = (skSays a l).2.2 := ⟨_, rfl⟩
 rw [← ha2, ← her, ← hFl] at HD ⊢
 rw [← ha2] at hM
 generalize ct + skW a l = ct' at HD ⊢
 generalize n - skW a l = n' at HD ⊢
 have hnv := cs_not H hb
 have HH := hide (And.intro hb hM)
 clear H hb hM ha2 her hFl hat hn hs hct
 unfold ptrTo at c0 HD
 show Calls Tryz.prog _ #[.pointer (some ⟨v, 0, none⟩), bs] w _
 go_enter Tryz.func27, Tryz.ntmps27
 go_wp2_with (go_at_call 56; refine (unhide HD).mono ?_; rintro r y ⟨lv, fs, x, rfl, k1, k2, k3⟩; replace k1 := hide k1; replace k2 := hide k2; replace k3 := hide k3)
 go_ret2
 obtain ⟨sh2, st2, ⟨c2, K, F, N, t1, t2⟩, hs2, O2⟩ := unhide k1
 obtain ⟨hb, hM⟩ := unhide HH
 have hbx := F.blk hb hnv
 have hB := unhide k2
 refine ⟨lv, fs, fun k => k = v ∨ PkU p c2 k, rfl, (unhide k3).up F.size ?_, ⟨p, sh2, st2, c2, (hB.block _ (lt_of_block hbx)).trans hbx, K.far (far_below (E := fun _ => False) hB) (fun _ _ h => h), hs2, O2, hM, rfl⟩, ?_, ?_⟩
 ·rintro k (rfl | hk)
  ·exact lt_of_block hbx
  ·exact K.lt k hk
 ·exact (F.mono (fun k _ h => .inr h)).trans (far_below (E := fun _ => False) hB) (fun _ _ h => h.elim)
 ·rintro k (rfl | hk)
  ·exact .inl (.inl rfl)
  ·exact (N k hk).imp .inr id
set_option maxHeartbeats 1000000 in
theorem cxDeliver_bad (bs : Value) (l : List UInt8) (h : CxAt op ct n w v a U) (hct : ct + 1000 < 18446744073709551616) (G : SkGood a) (hat : BytesAt w bs l) (hn : 1 ≤ n ∧ n ≤ skW a l) :
  Calls Tryz.prog 27 #[ptrTo v, bs] w fun r w' =>
   ∃ lv fs U', r = .returned (.tuple #[lv, .int .i64 4]) ∧ FramesOut w.heap.size w' lv fs [] U' ∧ CdAt op w' v a.epoch (skBad a l n) U' ∧ Far U w w' ∧ ∀ k, U' k → U k ∨ w.heap.size ≤ k := by
 obtain ⟨p, sh, st, c, hb, H, hs, O, M, rfl⟩ := h
 have c0 : w.cell? ⟨v, 0, none⟩ = some (ptrTo p) := blk_cell (i := 0) hb
 have HD := hide (sinkDeliver_bad H hs hct G M O bs l hat hn)
 generalize skBad a l n = lg at HD ⊢
 generalize hep : a.epoch = ep at HD ⊢
 have hnv := cs_not H hb
 have HH := hide hb
 clear H hb hat hn hs hct hep
 unfold ptrTo at c0 HD
 show Calls Tryz.prog _ #[.pointer (some ⟨v, 0, none⟩), bs] w _
 go_enter Tryz.func27, Tryz.ntmps27
 go_wp2_with (go_at_call 56; refine (unhide HD).mono ?_; rintro r y ⟨lv, fs, x, rfl, k1, k2, k3⟩; replace k1 := hide k1; replace k2 := hide k2; replace k3 := hide k3)
 go_ret2
 obtain ⟨sh2, st2, ⟨c2, K, F, N, t1, t2⟩, hs2⟩ := unhide k1
 have hb := unhide HH
 have hbx := F.blk hb hnv
 have hB := unhide k2
 refine ⟨lv, fs, fun k => k = v ∨ PkU p c2 k, rfl, (unhide k3).up F.size ?_, ⟨p, sh2, st2, c2, (hB.block _ (lt_of_block hbx)).trans hbx, K.far (far_below (E := fun _ => False) hB) (fun _ _ h => h), hs2, rfl⟩, ?_, ?_⟩
 ·rintro k (rfl | hk)
  ·exact lt_of_block hbx
  ·exact K.lt k hk
 ·exact (F.mono (fun k _ h => .inr h)).trans (far_below (E := fun _ => False) hB) (fun _ _ h => h.elim)
 ·rintro k (rfl | hk)
  ·exact .inl (.inl rfl)
  ·exact (N k hk).imp .inr id
set_option maxHeartbeats 1000000 in
theorem cdDeliver (bs : Value) (h : CdAt op w v e lg U) : Calls Tryz.prog 27 #[ptrTo v, bs] w fun r w' => r = .returned (.tuple #[.slice none 0 0, .int .i64 3]) ∧ w' = w := by
 obtain ⟨p, sh, st, c, hb, H, hs, rfl⟩ := h
 have c0 : w.cell? ⟨v, 0, none⟩ = some (ptrTo p) := blk_cell (i := 0) hb
 have HD := hide (sinkDeliver_dead H hs.dead bs)
 clear H hb
 unfold ptrTo at c0 HD
 show Calls Tryz.prog _ #[.pointer (some ⟨v, 0, none⟩), bs] w _
 go_enter Tryz.func27, Tryz.ntmps27
 go_wp2_with (go_at_call 56; refine (unhide HD).mono ?_; rintro r y ⟨rfl, rfl⟩)
 go_ret2
 exact ⟨rfl, rfl⟩
theorem cxEpoch (h : CxAt op ct n w v a U) : Calls Tryz.prog 42 #[ptrTo v] w fun r w' => r = .returned (.int .i64 a.epoch) ∧ w' = w := by
 obtain ⟨p, sh, st, c, hb, H, hs, O, M, rfl⟩ := h
 have c0 : w.cell? ⟨v, 0, none⟩ = some (ptrTo p) := blk_cell (i := 0) hb
 have HD := hide (sinkEpoch_any H)
 clear H hb
 unfold ptrTo at *
 go_enter Tryz.func42, Tryz.ntmps42
 go_wp2_with (go_at_call 67; refine (unhide HD).mono ?_; rintro r y ⟨rfl, rfl⟩)
 go_ret
 exact ⟨rfl, rfl⟩
theorem cxLog (i : Int) (h : CxAt op ct n w v a U) : Calls Tryz.prog 32 #[ptrTo v, .int .i64 i] w fun r w' =>
   ∃ lv, r = .returned lv ∧ w'.ownsRow w.heap.size 9 1 lv (skLogs a i).length (strs (skLogs a i)) ∧ Below w.heap.size w w' := by
 obtain ⟨p, sh, st, c, hb, H, hs, O, M, rfl⟩ := h
 have c0 : w.cell? ⟨v, 0, none⟩ = some (ptrTo p) := blk_cell (i := 0) hb
 have HD := hide (sinkLog_live H hs.dead i)
 unfold skLogs
 obtain ⟨xs, hxs⟩ : ∃ xs, xs = if 0 ≤ i ∧ i < 3 then a.logs i.toNat else [] := ⟨_, rfl⟩
 rw [← hxs] at HD ⊢
 clear H hb hxs
 unfold ptrTo at *
 go_enter Tryz.func32, Tryz.ntmps32
 go_wp2_with (go_at_call 60; refine (unhide HD).mono ?_; rintro r y ⟨lv, rfl, k1, k2⟩; replace k1 := hide k1; replace k2 := hide k2)
 go_ret
 exact ⟨lv, rfl, unhide k1, unhide k2⟩
theorem cdLog (i : Int) (h : CdAt op w v e lg U) : Calls Tryz.prog 32 #[ptrTo v, .int .i64 i] w fun r w' => r = .returned (.slice none 0 0) ∧ w' = w := by
 obtain ⟨p, sh, st, c, hb, H, hs, rfl⟩ := h
 have c0 : w.cell? ⟨v, 0, none⟩ = some (ptrTo p) := blk_cell (i := 0) hb
 have HD := hide (sinkLog_dead H hs.dead i)
 clear H hb
 unfold ptrTo at *
 go_enter Tryz.func32, Tryz.ntmps32
 go_wp2_with (go_at_call 60; refine (unhide HD).mono ?_; rintro r y ⟨rfl, rfl⟩)
 go_ret
 exact ⟨rfl, rfl⟩
theorem csArmOf {p : Nat} {sh : Nat → List (Nat × Value)} {st : Mod.Stv} {c : Sv} (hb : w.heap[v]? = some (.cells #[ptrTo p] 93 (0, 0))) (H : PkAt w p e lg sh st c) (m : Int) (hm : m ≤ 9223372036854775807) :
  Calls Tryz.prog 35 #[ptrTo v, .int .i64 m] w fun r w' => r = .returned (.tuple #[]) ∧ w'.heap[v]? = some (.cells #[ptrTo p] 93 (0, 0)) ∧ PkAt w' p e lg sh { st with dk := { st.dk with armed := m.toNat } } c ∧ Far (fun k => k = v ∨ PkU p c k) w w' := by
 have c0 : w.cell? ⟨v, 0, none⟩ = some (ptrTo p) := blk_cell (i := 0) hb
 have HD := hide (sinkArm_any H m hm)
 have hnv := cs_not H hb
 have HB := hide hb
 clear H hb hm
 unfold ptrTo at *
 go_enter Tryz.func35, Tryz.ntmps35
 go_wp2_with (go_at_call 62; refine (unhide HD).mono ?_; rintro r y ⟨rfl, k1, k2⟩; replace k1 := hide k1; replace k2 := hide k2)
 have F := unhide k2
 exact bodyPost_end (results_none rfl _ _ _) rfl ⟨rfl, F.blk (unhide HB) (fun e => hnv (by rw [e]; exact .inr (.inl (.inr (.inl rfl))))), unhide k1, F.mono (fun k _ e => .inr (by rw [e]; exact .inr (.inl (.inr (.inl rfl)))))⟩
theorem cxArm (m : Int) (h : CxAt op ct n w v a U) (hm : m ≤ 9223372036854775807) : Calls Tryz.prog 35 #[ptrTo v, .int .i64 m] w fun r w' => r = .returned (.tuple #[]) ∧ CxAt op ct m.toNat w' v a U ∧ Far U w w' := by
 obtain ⟨p, sh, st, c, hb, H, hs, O, M, rfl⟩ := h
 refine (csArmOf hb H m hm).mono ?_
 rintro r y ⟨rfl, k1, k2, k3⟩
 exact ⟨rfl, ⟨p, sh, _, c, k1, k2, ⟨hs.dead, rfl, hs.op, hs.ct, hs.dk⟩, O, M, rfl⟩, k3⟩
theorem cdArm (m : Int) (h : CdAt op w v e lg U) (hm : m ≤ 9223372036854775807) : Calls Tryz.prog 35 #[ptrTo v, .int .i64 m] w fun r w' => r = .returned (.tuple #[]) ∧ CdAt op w' v e lg U ∧ Far U w w' := by
 obtain ⟨p, sh, st, c, hb, H, hs, rfl⟩ := h
 refine (csArmOf hb H m hm).mono ?_
 rintro r y ⟨rfl, k1, k2, k3⟩
 exact ⟨rfl, ⟨p, sh, _, c, k1, k2, ⟨hs.dead, hs.op, hs.dk⟩, rfl⟩, k3⟩
theorem cxImg (h : CxAt op ct n w v a U) : ∃ (L : List UInt8) (c2 hd : Nat), Mod.SkDisk L op c2 hd a.epoch a.logs ∧ ∀ x, Below w.heap.size w x → ∀ keep : Int,
  Calls Tryz.prog 30 #[ptrTo v, .int .u64 keep] x fun r y => ∃ v', r = .returned v' ∧ Owns x.heap.size y v' L ∧ Below x.heap.size x y := by
 obtain ⟨p, sh, st, c, hb, H, hs, O, M, rfl⟩ := h
 refine ⟨st.dk.bytes, st.count, st.head, by rw [← hs.op]; exact hs.dk, fun x hx keep => ?_⟩
 exact csImageOf ((hx.block _ (lt_of_block hb)).trans hb) (H.far (E := fun _ => False) (far_below hx) (fun _ _ e => e)) keep
theorem cdImg (h : CdAt op w v e lg U) : ∃ (L : List UInt8) (c2 hd : Nat), Mod.SkDisk L op c2 hd e lg ∧ ∀ x, Below w.heap.size w x → ∀ keep : Int,
  Calls Tryz.prog 30 #[ptrTo v, .int .u64 keep] x fun r y => ∃ v', r = .returned v' ∧ Owns x.heap.size y v' L ∧ Below x.heap.size x y := by
 obtain ⟨p, sh, st, c, hb, H, hs, rfl⟩ := h
 obtain ⟨c2, hd, hk⟩ := hs.dk
 refine ⟨st.dk.bytes, c2, hd, by rw [← hs.op]; exact hk, fun x hx keep => ?_⟩
 exact csImageOf ((hx.block _ (lt_of_block hb)).trans hb) (H.far (E := fun _ => False) (far_below hx) (fun _ _ e => e)) keep
end
end Go.Proofs.YtamafdcnbcoegaaGreat
namespace Go.Proofs.YtamafdcnbcoegaaGreat
open Go.RowKit
theorem skDisk_opens {L : List UInt8} {op ct hd e : Nat} {lg : Nat → List ByteArray} (h : Mod.SkDisk L op ct hd e lg) (hop : op ≤ 1073741824) :
  ∃ (h' : Mod.Hd) (at' : Nat) (rs : List Mod.Rc), Mod.openSt L = some (h', at', rs) ∧ h'.o = op ∧ h'.a = e ∧ h'.b = 0 ∧ h'.d = 0 ∧ Mod.skLd rs 0 (fun _ => []) = some lg := by
 obtain ⟨hd', at', rs, o1, o2, o3, o4, o5, o6⟩ := Mod.skLoad_some (h.loads hop)
 obtain ⟨ord, p1, p2, p3, p4, p5⟩ := h.rcs
 obtain ⟨c, ho⟩ := h.ok.opens hop (fun x => ord.getD x Mod.rc0) (fun x hx => p5 x hx)
 have ho2 := ho
 rw [o1] at ho2
 injection ho2 with ho2
 injection ho2 with e1 _
 exact ⟨hd', at', rs, o1, by rw [e1], o4.symm, o2, o3, o6⟩
theorem alv_opened {L : List UInt8} {h : Mod.Hd} {at' : Nat} {rs : List Mod.Rc} {lg : Nat → List ByteArray} (ho : Mod.openSt L = some (h, at', rs)) (hb : h.b = 0) (hd : h.d = 0) (hl : Mod.skLd rs 0 (fun _ => []) = some lg) (hlen : L.length = 7808) :
  Alv (h.o + 1) 1 0 (newStv L h at') h.a lg :=
 ⟨rfl, rfl, rfl, Nat.le_refl _, Mod.skDisk_opened (a := { epoch := h.a, logs := lg, held := [] }) ho hb hd hl hlen⟩
theorem skMore_nil (e : Nat) (lg : Nat → List ByteArray) : SkMore { epoch := e, logs := lg, held := [] } := ⟨fun h hh => by simp at hh, fun _ s _ b hb => by simp at hb⟩
set_option maxHeartbeats 1000000 in
theorem cxOpen_of {w : World} (bs : Value) (L : List UInt8) (hat : BytesAt w bs L) (hlen : L.length = 7808) {h : Mod.Hd} {at' : Nat} {rs : List Mod.Rc} {lg : Nat → List ByteArray} (ho : Mod.openSt L = some (h, at', rs)) (hb0 : h.b = 0) (hd0 : h.d = 0) (hl : Mod.skLd rs 0 (fun _ => []) = some lg) :
  Calls Tryz.prog 38 #[bs] w fun r w' =>
   ∃ v U, r = .returned (.tuple #[ptrTo v, .int .i64 0]) ∧ CxAt (h.o + 1) 1 0 w' v { epoch := h.a, logs := lg, held := [] } U ∧ Below w.heap.size w w' ∧ ∀ k, U k → w.heap.size ≤ k := by
 have HD : Hid (Calls Tryz.prog 65 #[bs] w fun r w' => ∃ p c, r = .returned (.tuple #[ptrTo p, .int .i64 0]) ∧ PkAt w' p h.a lg (fun _ => []) (newStv L h at') c ∧ Below w.heap.size w w' ∧ ∀ k, PkU p c k → w.heap.size ≤ k) := by
  refine (sinkOpen_some w bs L hat hlen ho).mono ?_
  rintro r y (⟨h1 | h1, _⟩ | ⟨_, _, lg2, p, c, e1, rfl, k1, k2, k3⟩)
  ·exact absurd ⟨hb0, hd0⟩ h1
  ·rw [hl] at h1; cases h1
  ·rw [hl] at e1
   injection e1 with e1
   subst e1
   exact ⟨p, c, rfl, k1, k2, k3⟩
 have HA := hide (alv_opened ho hb0 hd0 hl hlen)
 clear hat ho hb0 hd0 hl hlen
 generalize newStv L h at' = st at HD HA
 generalize h.o + 1 = op1 at HA ⊢
 generalize h.a = ep at HD HA ⊢
 unfold ptrTo at *
 go_enter Tryz.func38, Tryz.ntmps38
 go_wp2_with (go_at_call 65; refine (unhide HD).mono ?_; rintro r y ⟨p, c, rfl, K, hb, hU⟩; replace K := hide K; replace hb := hide hb; replace hU := hide hU)
 go_ret2
 have hb := unhide hb
 refine ⟨y.heap.size, _, rfl, ⟨p, _, st, c, heap_alloc_new _ _, (unhide K).far (far_below (E := fun _ => False) ((Below.refl _ _).alloc (Nat.le_refl _) _)) (fun _ _ h => h), unhide HA, onSh_nil, skMore_nil _ _, rfl⟩, hb.alloc hb.size _, ?_⟩
 rintro k (rfl | hk)
 ·exact hb.size
 ·exact (unhide hU) k hk
theorem cxOpen {w : World} (bs : Value) (L : List UInt8) {op c2 hd e : Nat} {lg : Nat → List ByteArray} (hat : BytesAt w bs L) (hk : Mod.SkDisk L op c2 hd e lg) (hop : op ≤ 1073741824) :
  Calls Tryz.prog 38 #[bs] w fun r w' =>
   ∃ v U, r = .returned (.tuple #[ptrTo v, .int .i64 0]) ∧ CxAt (op + 1) 1 0 w' v { epoch := e, logs := lg, held := [] } U ∧ Below w.heap.size w w' ∧ ∀ k, U k → w.heap.size ≤ k := by
 obtain ⟨h', at', rs, o1, o2, o3, o4, o5, o6⟩ := skDisk_opens hk hop
 subst o2 o3
 exact cxOpen_of bs L hat hk.ok.len o1 o4 o5 o6
theorem cxOpen_zero {w : World} (bs : Value) (hat : BytesAt w bs (List.replicate 7808 0)) :
  Calls Tryz.prog 38 #[bs] w fun r w' =>
   ∃ v U, r = .returned (.tuple #[ptrTo v, .int .i64 0]) ∧ CxAt 1 1 0 w' v { epoch := 0, logs := fun _ => [], held := [] } U ∧ Below w.heap.size w w' ∧ ∀ k, U k → w.heap.size ≤ k := by
 have ho := Mod.openSt_nought 122 (by omega)
 refine cxOpen_of bs _ hat (by rw [List.length_replicate]) ho rfl rfl ?_
 have : ((List.range (122 - 2)).map fun _ => Mod.rc0) = List.replicate 120 Mod.rc0 := by rw [List.map_const']; simp
 rw [this]
 exact Mod.skLd_zero 120 0 _
def theSinkX : SinkX where
 At := CxAt
 Dd := CdAt
 lt := cxAt_lt
 far := cxAt_far
 ltD := cdAt_lt
 farD := cdAt_far
 ok := cxDeliver_ok
 bad := cxDeliver_bad
 dead := cdDeliver
 epoch := cxEpoch
 log := cxLog
 logD := cdLog
 arm := cxArm
 armD := cdArm
 img := cxImg
 imgD := cdImg
 opened := cxOpen
 zero := cxOpen_zero
end Go.Proofs.YtamafdcnbcoegaaGreat
namespace Go.Proofs.YtamafdcnbcoegaaGreat
open Go.RowKit
theorem sendTo_small (e s : Nat) (f : Mod.Flow) (t : Nat) (hb : ∀ x ∈ f.kept, x.1.size ≤ 20) : ∀ i, (Mod.sendTo e s f t i).2.length ≤ i ∧ ∀ l ∈ (Mod.sendTo e s f t i).2, l.length ≤ 35
 | 0 => ⟨Nat.le_refl _, fun l hl => by cases hl⟩
 | i + 1 => by
  obtain ⟨h1, h2⟩ := sendTo_small e s f t hb i
  rw [Mod.sendTo]
  split
  ·exact ⟨by omega, h2⟩
  ·rename_i x hx
   split
   ·refine ⟨by simp; omega, fun l hl => ?_⟩
    rw [List.mem_append, List.mem_singleton] at hl
    rcases hl with hl | rfl
    ·exact h2 l hl
    ·have := hb x (List.mem_of_getElem? hx)
     rw [Wire.length_bytes]
     simp
     omega
   ·exact ⟨by omega, h2⟩
theorem tick_small {N : Nat} {a : Mod.Ag} (G : AgGood N a) : a.tick.2.length ≤ 12 ∧ ∀ l ∈ a.tick.2, l.length ≤ 35 := by
 unfold Mod.Ag.tick
 split
 ·exact ⟨by simp, fun l hl => by cases hl⟩
 ·split
  ·refine ⟨by simp, fun l hl => ?_⟩
   rw [List.mem_singleton] at hl
   rw [hl, Wire.length_bytes]
   simp
  ·have h := fun s (hs : s < 3) => sendTo_small a.epoch s (a.fl s) (a.ticks + 1) (fun x hx => (G.bod s hs x hx).1) 4
   have h0 := h 0 (by omega)
   have h1 := h 1 (by omega)
   have h2 := h 2 (by omega)
   simp only [Mod.sendOut, List.nil_append]
   refine ⟨by simp only [List.length_append]; omega, fun l hl => ?_⟩
   rw [List.mem_append, List.mem_append] at hl
   rcases hl with (hl | hl) | hl
   ·exact h0.2 l hl
   ·exact h1.2 l hl
   ·exact h2.2 l hl
end Go.Proofs.YtamafdcnbcoegaaGreat
namespace Go.Proofs.YtamafdcnbcoegaaGreat
open Go.RowKit
theorem FramesOut.off {B : Nat} {w : World} {lv : Value} {fs : List Value} {Fl : List ByteArray} {U : Nat → Prop} (h : FramesOut B w lv fs Fl U) : FramesOut B w lv fs Fl (fun _ => False) := ⟨h.len, h.row, h.each, h.apart, fun _ _ e => e⟩
theorem skGood_says {a : Mod.Sk} (G : SkGood a) (l : List UInt8) : SkGood (skSays a l).2.1 := by
 unfold skSays
 cases hr : Wire.reads l
 ·exact G
 ·rw [if_pos rfl]
  have hp := hr
  unfold Wire.reads at hp
  rw [Bool.and_eq_true] at hp
  have hp2 := proper_small hp.2
  exact skGood_reply G _ _ _ _ _ (by have := hp2.2.2.1; omega) hp2.2.1.2
theorem agGood_says {N : Nat} {a : Mod.Ag} (G : AgGood N a) (l : List UInt8) : AgGood N (agSays a l).2 := by
 unfold agSays
 split
 ·exact agGood_deliver G _ _ _ _ _
 ·exact G
theorem agGood_submits {N : Nat} {a : Mod.Ag} (G : AgGood N a) (i : Int) (s : ByteArray) : AgGood (N + 1) (agSubmits a i s) := by
 unfold agSubmits
 split
 ·rename_i h
  exact agGood_submit G _ _ (refuses_0 h).2.1
 ·exact G.mono (Nat.le_succ _)
def Same (B : Nat) (G : Nat → Prop) (x y : World) : Prop := Far (fun j => B ≤ j ∧ ¬ G j) x y
theorem Same.refl (B : Nat) (G : Nat → Prop) (x : World) : Same B G x x := Far.refl _ _
theorem Same.trans {B : Nat} {G G' : Nat → Prop} {x y z : World} (h : Same B G x y) (h' : Same B G' y z) (hG : ∀ j, j < x.heap.size → G j → G' j) : Same B G x z :=
 Far.trans h h' (fun j hj e => ⟨e.1, fun g => e.2 (hG j hj g)⟩)
theorem Same.bel {B : Nat} {G : Nat → Prop} {x y : World} (h : Same B G x y) (hB : B ≤ x.heap.size) : Below B x y := Far.below h hB (fun k hk e => by omega)
structure Ends {top : Nat} (C : AgentC top) (D : SinkC) (B N : Nat) (x : World) (va vs : Nat) (a : Mod.Ag) (k : Mod.Sk) (G : Nat → Prop) : Prop where
 all : ∃ (U V : Nat → Prop), C.At x va a U ∧ D.At x vs k V ∧ (∀ j, U j → ¬ V j) ∧ (∀ j, U j → B ≤ j) ∧ (∀ j, V j → B ≤ j) ∧ (∀ j, G j → j < x.heap.size ∧ ¬ U j ∧ ¬ V j)
 ga : AgGood N a
 gk : SkGood k
 bx : B ≤ x.heap.size
section
variable {top : Nat} {C : AgentC top} {D : SinkC} {B N : Nat} {x y : World} {va vs : Nat} {a : Mod.Ag} {k : Mod.Sk} {G : Nat → Prop}
theorem Ends.far {E : Nat → Prop} (h : Ends C D B N x va vs a k G) (hF : Far E x y) (hE : ∀ j, E j → G j ∨ j < B) : Ends C D B N y va vs a k G := by
 obtain ⟨U, V, h1, h2, h3, h4, h5, h6⟩ := h.all
 refine ⟨⟨U, V, C.far h1 hF (fun j hu e => ?_), D.far h2 hF (fun j hu e => ?_), h3, h4, h5, fun j hj => ⟨Nat.lt_of_lt_of_le (h6 j hj).1 hF.size, (h6 j hj).2⟩⟩, h.ga, h.gk, Nat.le_trans h.bx hF.size⟩
 ·rcases hE j e with e | e
  ·exact (h6 j e).2.1 hu
  ·have := h4 j hu; omega
 ·rcases hE j e with e | e
  ·exact (h6 j e).2.2 hu
  ·have := h5 j hu; omega
theorem Ends.below (h : Ends C D B N x va vs a k G) (hb : Below x.heap.size x y) : Ends C D B N y va vs a k G := h.far (E := fun _ => False) (far_below hb) (fun _ e => e.elim)
theorem Ends.mono {G' : Nat → Prop} {M : Nat} (h : Ends C D B N x va vs a k G) (hG : ∀ j, G' j → G j) (hM : N ≤ M) : Ends C D B M x va vs a k G' := by
 obtain ⟨U, V, h1, h2, h3, h4, h5, h6⟩ := h.all
 exact ⟨⟨U, V, h1, h2, h3, h4, h5, fun j hj => h6 j (hG j hj)⟩, h.ga.mono hM, h.gk, h.bx⟩
theorem Ends.more (h : Ends C D B N x va vs a k G) (hb : Below x.heap.size x y) : Ends C D B N y va vs a k (fun j => G j ∨ (x.heap.size ≤ j ∧ j < y.heap.size)) := by
 have h' := h.below hb
 obtain ⟨U, V, h1, h2, h3, h4, h5, h6⟩ := h.all
 have hu := C.lt h1
 have hv := D.lt h2
 have F : Far (fun _ => False) x y := far_below hb
 refine ⟨⟨U, V, C.far h1 F (fun _ _ e => e), D.far h2 F (fun _ _ e => e), h3, h4, h5, fun j hj => ?_⟩, h.ga, h.gk, h'.bx⟩
 rcases hj with hj | hj
 ·exact ⟨Nat.lt_of_lt_of_le (h6 j hj).1 hb.size, (h6 j hj).2⟩
 ·exact ⟨hj.2, fun e => by have := hu j e; omega, fun e => by have := hv j e; omega⟩
theorem Ends.submit (h : Ends C D B N x va vs a k G) (hN : N < top) (i : Int) (s : ByteArray) :
  Calls Tryz.prog 21 #[ptrTo va, .int .i64 i, .string s] x fun r y => r = .returned (.int .i64 (a.refuses i s.size)) ∧ Ends C D B (N + 1) y va vs (agSubmits a i s) k G ∧ Same B G x y := by
 obtain ⟨U, V, h1, h2, h3, h4, h5, h6⟩ := h.all
 have hv := D.lt h2
 refine (C.submit i s h1 h.ga hN).mono ?_
 rintro r y ⟨U', rfl, k1, k2, k3⟩
 have hsz := k2.size
 have hu := C.lt k1
 refine ⟨rfl, ⟨⟨U', V, k1, D.far h2 k2 (fun j hj e => h3 j e hj), fun j hj e => ?_, fun j hj => ?_, h5, fun j hj => ⟨Nat.lt_of_lt_of_le (h6 j hj).1 hsz, fun e => ?_, (h6 j hj).2.2⟩⟩, agGood_submits h.ga i s, h.gk, Nat.le_trans h.bx hsz⟩, k2.mono (fun j _ e => ⟨h4 j e, fun g => (h6 j g).2.1 e⟩)⟩
 ·rcases k3 j hj with e' | e'
  ·exact h3 j e' e
  ·have := hv j e; omega
 ·rcases k3 j hj with e' | e'
  ·exact h4 j e'
  ·have := h.bx; omega
 ·rcases k3 j e with e' | e'
  ·exact (h6 j hj).2.1 e'
  ·have := (h6 j hj).1; omega
theorem Ends.hear (h : Ends C D B N x va vs a k G) (hN : N < top) (bs : Value) (l : List UInt8) (hat : BytesAt x bs l) :
  Calls Tryz.prog 28 #[ptrTo va, bs] x fun r y => r = .returned (.int .i64 (agSays a l).1) ∧ Ends C D B N y va vs (agSays a l).2 k G ∧ Same B G x y := by
 obtain ⟨U, V, h1, h2, h3, h4, h5, h6⟩ := h.all
 have hv := D.lt h2
 refine (C.deliver bs l h1 h.ga hN hat).mono ?_
 rintro r y ⟨U', rfl, k1, k2, k3⟩
 have hsz := k2.size
 have hu := C.lt k1
 refine ⟨rfl, ⟨⟨U', V, k1, D.far h2 k2 (fun j hj e => h3 j e hj), fun j hj e => ?_, fun j hj => ?_, h5, fun j hj => ⟨Nat.lt_of_lt_of_le (h6 j hj).1 hsz, fun e => ?_, (h6 j hj).2.2⟩⟩, agGood_says h.ga l, h.gk, Nat.le_trans h.bx hsz⟩, k2.mono (fun j _ e => ⟨h4 j e, fun g => (h6 j g).2.1 e⟩)⟩
 ·rcases k3 j hj with e' | e'
  ·exact h3 j e' e
  ·have := hv j e; omega
 ·rcases k3 j hj with e' | e'
  ·exact h4 j e'
  ·have := h.bx; omega
 ·rcases k3 j e with e' | e'
  ·exact (h6 j hj).2.1 e'
  ·have := (h6 j hj).1; omega
theorem Ends.tick (h : Ends C D B N x va vs a k G) (hN : N < top) :
  Calls Tryz.prog 24 #[ptrTo va] x fun r y => ∃ lv fs, r = .returned lv ∧ FramesOut x.heap.size y lv fs (a.tick.2.map fun l => ⟨l.toArray⟩) (fun _ => False) ∧ Ends C D B (N + 1) y va vs a.tick.1 k (fun j => G j ∨ Outs lv fs j) ∧ Same B G x y := by
 obtain ⟨U, V, h1, h2, h3, h4, h5, h6⟩ := h.all
 have hv := D.lt h2
 refine (C.tick h1 h.ga hN).mono ?_
 rintro r y ⟨lv, fs, U', rfl, hO, k1, k2, k3⟩
 have hsz := k2.size
 have hu := C.lt k1
 refine ⟨lv, fs, rfl, hO.off, ⟨⟨U', V, k1, D.far h2 k2 (fun j hj e => h3 j e hj), fun j hj e => ?_, fun j hj => ?_, h5, fun j hj => ?_⟩, agGood_tick h.ga, h.gk, Nat.le_trans h.bx hsz⟩, k2.mono (fun j _ e => ⟨h4 j e, fun g => (h6 j g).2.1 e⟩)⟩
 ·rcases k3 j hj with e' | e'
  ·exact h3 j e' e
  ·have := hv j e; omega
 ·rcases k3 j hj with e' | e'
  ·exact h4 j e'
  ·have := h.bx; omega
 ·rcases hj with hj | hj
  ·refine ⟨Nat.lt_of_lt_of_le (h6 j hj).1 hsz, fun e => ?_, (h6 j hj).2.2⟩
   rcases k3 j e with e' | e'
   ·exact (h6 j hj).2.1 e'
   ·have := (h6 j hj).1; omega
  ·have hl := hO.lt j hj
   exact ⟨hl.2, hO.clear j hj, fun e => by have := hv j e; omega⟩
theorem Ends.take (h : Ends C D B N x va vs a k G) (bs : Value) (l : List UInt8) (hat : BytesAt x bs l) :
  Calls Tryz.prog 27 #[ptrTo vs, bs] x fun r y => ∃ lv fs, r = .returned (.tuple #[lv, .int .i64 (skSays k l).1]) ∧ FramesOut x.heap.size y lv fs (skSays k l).2.2 (fun _ => False) ∧ Ends C D B N y va vs a (skSays k l).2.1 (fun j => G j ∨ Outs lv fs j) ∧ Same B G x y := by
 obtain ⟨U, V, h1, h2, h3, h4, h5, h6⟩ := h.all
 have hu := C.lt h1
 refine (D.deliver bs l h2 h.gk hat).mono ?_
 rintro r y ⟨lv, fs, V', rfl, hO, k1, k2, k3⟩
 have hsz := k2.size
 refine ⟨lv, fs, rfl, hO.off, ⟨⟨U, V', C.far h1 k2 (fun j hj e => h3 j hj e), k1, fun j hj e => ?_, h4, fun j hj => ?_, fun j hj => ?_⟩, h.ga, skGood_says h.gk l, Nat.le_trans h.bx hsz⟩, k2.mono (fun j _ e => ⟨h5 j e, fun g => (h6 j g).2.2 e⟩)⟩
 ·rcases k3 j e with e' | e'
  ·exact h3 j hj e'
  ·have := hu j hj; omega
 ·rcases k3 j hj with e' | e'
  ·exact h5 j e'
  ·have := h.bx; omega
 ·rcases hj with hj | hj
  ·refine ⟨Nat.lt_of_lt_of_le (h6 j hj).1 hsz, (h6 j hj).2.1, fun e => ?_⟩
   rcases k3 j e with e' | e'
   ·exact (h6 j hj).2.2 e'
   ·have := (h6 j hj).1; omega
  ·have hl := hO.lt j hj
   exact ⟨hl.2, fun e => by have := hu j e; omega, hO.clear j hj⟩
theorem Ends.spool (h : Ends C D B N x va vs a k G) (i : Int) :
  Calls Tryz.prog 26 #[ptrTo va, .int .i64 i] x fun r y => ∃ lv, r = .returned lv ∧ y.ownsRow x.heap.size 9 1 lv (agSpools a i).length (strs (agSpools a i)) ∧ Ends C D B N y va vs a k (fun j => G j ∨ (x.heap.size ≤ j ∧ j < y.heap.size)) ∧ Below x.heap.size x y := by
 obtain ⟨U, V, h1, _⟩ := h.all
 refine (C.spool i h1).mono ?_
 rintro r y ⟨lv, rfl, k1, k2⟩
 exact ⟨lv, rfl, k1, h.more k2, k2⟩
theorem Ends.log (h : Ends C D B N x va vs a k G) (i : Int) :
  Calls Tryz.prog 32 #[ptrTo vs, .int .i64 i] x fun r y => ∃ lv, r = .returned lv ∧ y.ownsRow x.heap.size 9 1 lv (skLogs k i).length (strs (skLogs k i)) ∧ Ends C D B N y va vs a k (fun j => G j ∨ (x.heap.size ≤ j ∧ j < y.heap.size)) ∧ Below x.heap.size x y := by
 obtain ⟨U, V, _, h2, _⟩ := h.all
 refine (D.log i h2 h.gk).mono ?_
 rintro r y ⟨lv, rfl, k1, k2⟩
 exact ⟨lv, rfl, k1, h.more k2, k2⟩
end
end Go.Proofs.YtamafdcnbcoegaaGreat
namespace Go.Proofs.YtamafdcnbcoegaaGreat
open Go.RowKit
def pickN (c : Int) (n : Nat) : Nat := ((if c < 0 then -(c + 1) else c) % (n : Int)).toNat
theorem pickN_lt (c : Int) {n : Nat} (hn : 0 < n) : pickN c n < n := by
 unfold pickN
 have h1 := Int.emod_lt_of_pos (if c < 0 then -(c + 1) else c) (show (0 : Int) < n by omega)
 have h2 := Int.emod_nonneg (if c < 0 then -(c + 1) else c) (show (n : Int) ≠ 0 by omega)
 omega
end Go.Proofs.YtamafdcnbcoegaaGreat
namespace Go.Proofs.YtamafdcnbcoegaaGreat
open Go.RowKit
set_option maxRecDepth 100000 in
set_option maxHeartbeats 1000000 in
theorem keepAgent_any {top : Nat} (C : AgentC top) (w : World) :
  Calls Tryz.prog 18 #[] w fun r y => ∃ v U, r = .returned (ptrTo v) ∧ C.At y v { epoch := 1, ticks := 0, welcome := false, fenced := false, fl := fun _ => { base := 0, kept := [], held := [] } } U ∧ Below w.heap.size w y ∧ ∀ j, U j → w.heap.size ≤ j := by
 go_enter Tryz.func18, Tryz.ntmps18
 go_wp2_with (at_make; refine wp_make_full rfl _ _ rfl w.heap.size _ _ _ _ 1664 rfl rfl rfl rfl (by omega) (Nat.le_refl _) ?_; intro w1 hown1 hg1; have b1 := hide (below_grown_new (B := w.heap.size) hg1 (Nat.le_refl _) (by simp)); have HA := hide (Owns.at hown1); clear hown1 hg1)
 refine (C.opened _ (unhide HA)).mono ?_
 rintro r y ⟨v, U, rfl, k1, k2, k3⟩
 have HK := hide (And.intro k1 (And.intro k2 k3))
 clear k1 k2 k3
 unfold ptrTo
 go_wp2
 go_ret
 obtain ⟨k1, k2, k3⟩ := unhide HK
 have hb := unhide b1
 exact ⟨v, U, rfl, k1, hb.trans (k2.mono hb.size), fun j hj => Nat.le_trans hb.size (k3 j hj)⟩
set_option maxRecDepth 100000 in
set_option maxHeartbeats 1000000 in
theorem keepSink_any (D : SinkC) (w : World) :
  Calls Tryz.prog 19 #[] w fun r y => ∃ v U, r = .returned (ptrTo v) ∧ D.At y v { epoch := 0, logs := fun _ => [], held := [] } U ∧ Below w.heap.size w y ∧ ∀ j, U j → w.heap.size ≤ j := by
 go_enter Tryz.func19, Tryz.ntmps19
 go_wp2_with (at_make; refine wp_make_full rfl _ _ rfl w.heap.size _ _ _ _ 7808 rfl rfl rfl rfl (by omega) (Nat.le_refl _) ?_; intro w1 hown1 hg1; have b1 := hide (below_grown_new (B := w.heap.size) hg1 (Nat.le_refl _) (by simp)); have HA := hide (Owns.at hown1); clear hown1 hg1)
 refine (D.opened _ (unhide HA)).mono ?_
 rintro r y ⟨v, U, rfl, k1, k2, k3⟩
 have HK := hide (And.intro k1 (And.intro k2 k3))
 clear k1 k2 k3
 unfold ptrTo
 go_wp2
 go_ret
 obtain ⟨k1, k2, k3⟩ := unhide HK
 have hb := unhide b1
 exact ⟨v, U, rfl, k1, hb.trans (k2.mono hb.size), fun j hj => Nat.le_trans hb.size (k3 j hj)⟩
set_option maxRecDepth 100000 in
theorem keepPick_any (c : Int) (n : Nat) (w : World) (hc : -9223372036854775808 ≤ c ∧ c ≤ 9223372036854775807) (hn : 0 < n) (hn6 : n ≤ 100000000) :
  Calls Tryz.prog 22 #[.int .i64 c, .int .i64 n] w fun r w' => r = .returned (.int .i64 (pickN c n)) ∧ w' = w := by
 have hn0 : ¬ (n : Int) = 0 := by omega
 have hn1 : ¬ (n : Int) = -1 := by omega
 have hb : ((n : Int) == 0) = false := by simp; omega
 have HJ : Hid ((pickN c n : Int) = (if c < 0 then -(c + 1) else c) % (n : Int)) := by
  have h2 := Int.emod_nonneg (if c < 0 then -(c + 1) else c) hn0
  unfold pickN
  show _ = _
  omega
 generalize pickN c n = j at HJ
 obtain ⟨d, hd⟩ : ∃ d, d = if c < 0 then -(c + 1) else c := ⟨_, rfl⟩
 rw [← hd] at HJ
 have hd0 : 0 ≤ d ∧ d ≤ 9223372036854775807 := by rw [hd]; split <;> omega
 by_cases h : c < 0
 ·rw [if_pos h] at hd
  have hw1 : IntKind.i64.wrap (c + 1) = c + 1 := by rw [IntKind.wrap_i64]; omega
  have hw2 : IntKind.i64.wrap (-(c + 1)) = d := by rw [IntKind.wrap_i64]; omega
  clear hd
  go_enter Tryz.func22, Tryz.ntmps22
  go_wp2
  go_ret
  exact ⟨ret_i (unhide HJ).symm, rfl⟩
 ·rw [if_neg h] at hd
  subst hd
  go_enter Tryz.func22, Tryz.ntmps22
  go_wp2
  go_ret
  exact ⟨ret_i (unhide HJ).symm, rfl⟩
def digL (n : Nat) : List UInt8 := if n < 10 then [UInt8.ofNat (48 + n)] else digL (n / 10) ++ [UInt8.ofNat (48 + n % 10)]
def digB (n : Nat) : ByteArray := ⟨(digL n).toArray⟩
theorem digL_len : ∀ (k n : Nat), n < 10 ^ (k + 1) → (digL n).length ≤ k + 1
 | 0, n, h => by
  rw [digL, if_pos (by simpa using h)]
  simp
 | k + 1, n, h => by
  rw [digL]
  split
  ·simp
  ·have := digL_len k (n / 10) (by rw [Nat.pow_succ] at h; omega)
   simp
   omega
theorem digB_size {n : Nat} (h : n < 10000000000) : (digB n).size ≤ 10 := by
 have := digL_len 9 n (by omega)
 simpa [digB, ByteArray.size] using this
theorem digB_eq (n : Nat) : digB n = if n < 10 then ⟨#[UInt8.ofNat (48 + n % 10)]⟩ else digB (n / 10) ++ ⟨#[UInt8.ofNat (48 + n % 10)]⟩ := by
 unfold digB
 conv => lhs; rw [digL]
 split
 ·rename_i h
  rw [Nat.mod_eq_of_lt h]
 ·apply ByteArray.ext
  simp
set_option maxRecDepth 100000 in
set_option maxHeartbeats 1000000 in
theorem digits_any (n : Nat) (w : World) (hn : n ≤ 1000000000) : Calls Tryz.prog 23 #[.int .i64 n] w fun r y => r = .returned (.string (digB n)) ∧ Below w.heap.size w y := by
 have ih : ¬ n < 10 → ∀ x, Hid (Calls Tryz.prog 23 #[.int .i64 (n / 10 : Nat)] x fun r y => r = .returned (.string (digB (n / 10))) ∧ Below x.heap.size x y) := fun h x => digits_any (n / 10) x (by omega)
 have hconv : (convert 44 9 (.slice (some ⟨w.heap.size, 0, none⟩) 1 1)).run Tryz.prog (w.alloc (.cells #[.int .u8 (48 + (n : Int) % 10)] 5)) = .ok (.string ⟨#[UInt8.ofNat (48 + n % 10)]⟩) (w.alloc (.cells #[.int .u8 (48 + (n : Int) % 10)] 5)) :=
  conv_str (l := [UInt8.ofNat (48 + n % 10)]) (b := w.heap.size) (off := 0) (n := 1) (cap := 1) rfl (fun i hi => by
   obtain rfl : i = 0 := by omega
   rw [blk_cell (heap_alloc_new w _)]
   simp only [List.getD_cons_zero, UInt8.toNat_ofNat']
   have : ((48 + n % 10) % 2 ^ 8 : Nat) = 48 + n % 10 := by omega
   rw [this]
   simp)
 have hb := hide ((Below.refl w.heap.size w).alloc (Nat.le_refl _) (.cells #[.int .u8 (48 + (n : Int) % 10)] 5))
 have hd0 : Hid (digB n = if n < 10 then ⟨#[UInt8.ofNat (48 + n % 10)]⟩ else digB (n / 10) ++ ⟨#[UInt8.ofNat (48 + n % 10)]⟩) := digB_eq n
 obtain ⟨cc, hcc⟩ : ∃ cc, cc = UInt8.ofNat (48 + n % 10) := ⟨_, rfl⟩
 rw [← hcc] at hconv hd0
 clear hcc
 by_cases h : n < 10
 ·have hi : (n : Int) < 10 := by omega
  have hd : Hid (digB n = ⟨#[cc]⟩) := (unhide hd0).trans (if_pos h)
  clear ih
  go_enter Tryz.func23, Tryz.ntmps23
  go_wp2
  go_ret
  exact ⟨by rw [unhide hd]; rfl, unhide hb⟩
 ·have hi : ¬ (n : Int) < 10 := by omega
  have hd : Hid (digB n = digB (n / 10) ++ ⟨#[cc]⟩) := (unhide hd0).trans (if_neg h)
  clear hd0
  have ih := ih h
  have hdz : (digB (n / 10)).size ≤ 10 := digB_size (by omega)
  generalize digB (n / 10) = db at ih hd hdz
  have hdz2 : ¬ 9223372036854775807 < db.size + 1 := by omega
  obtain ⟨m, hm⟩ : ∃ m, m = n / 10 := ⟨_, rfl⟩
  rw [← hm] at ih
  have hq : (n : Int).tdiv 10 = (m : Int) := by rw [Int.tdiv_eq_ediv_of_nonneg (by omega)]; omega
  have hq2 : (n : Int) / 10 = (m : Int) := by omega
  have hw : IntKind.i64.wrap (m : Int) = (m : Int) := by rw [IntKind.wrap_i64]; omega
  clear hm
  go_enter Tryz.func23, Tryz.ntmps23
  go_wp2_with (go_at_call 23; refine (unhide (ih _)).mono ?_; rintro r y ⟨rfl, hy⟩; have HY := hide ((unhide hb).trans (hy.mono (unhide hb).size)); clear hy)
  go_ret
  exact ⟨by rw [unhide hd]; rfl, unhide HY⟩
  termination_by n
  decreasing_by omega
end Go.Proofs.YtamafdcnbcoegaaGreat
namespace Go.Proofs.YtamafdcnbcoegaaGreat
open Go.RowKit
def hearM : Mod.Ag × Bool → List ByteArray → Mod.Ag × Bool
 | s, [] => s
 | s, b :: r => hearM ((agSays s.1 b.data.toList).2, s.2 && ((agSays s.1 b.data.toList).1 == 0)) r
def tellM : Mod.Ag × Mod.Sk × Bool → List (List UInt8) → Mod.Ag × Mod.Sk × Bool
 | s, [] => s
 | s, l :: r => tellM ((hearM (s.1, s.2.2 && ((skSays s.2.1 l).1 == 0)) (skSays s.2.1 l).2.2).1, (skSays s.2.1 l).2.1, (hearM (s.1, s.2.2 && ((skSays s.2.1 l).1 == 0)) (skSays s.2.1 l).2.2).2) r
def exchM (a : Mod.Ag) (k : Mod.Sk) : Mod.Ag × Mod.Sk × Bool := tellM (a.tick.1, k, true) a.tick.2
theorem hearM_snoc (s : Mod.Ag × Bool) (l : List ByteArray) (b : ByteArray) : hearM s (l ++ [b]) = ((agSays (hearM s l).1 b.data.toList).2, (hearM s l).2 && ((agSays (hearM s l).1 b.data.toList).1 == 0)) := by
 induction l generalizing s with
 | nil => rfl
 | cons x r ih => exact ih _
theorem tellM_snoc (s : Mod.Ag × Mod.Sk × Bool) (l : List (List UInt8)) (b : List UInt8) : tellM s (l ++ [b]) = tellM (tellM s l) [b] := by
 induction l generalizing s with
 | nil => rfl
 | cons x r ih => exact ih _
theorem FramesOut.get {B : Nat} {w : World} {lv : Value} {fs : List Value} {Fl : List ByteArray} {U : Nat → Prop} (h : FramesOut B w lv fs Fl U) (i : Nat) (hi : i < Fl.length) : ∃ v, fs[i]? = some v ∧ Owns B w v Fl[i].data.toList := by
 have hl := h.len
 have hi2 : i < fs.length := by omega
 refine ⟨fs[i], List.getElem?_eq_getElem hi2, ?_⟩
 have := h.each i fs[i] (List.getElem?_eq_getElem hi2)
 rw [List.getD_eq_getElem?_getD, List.getElem?_map, List.getElem?_eq_getElem hi] at this
 exact this
set_option maxRecDepth 100000 in
set_option maxHeartbeats 8000000 in
theorem exchange_any {top : Nat} (C : AgentC top) (D : SinkC) (B N : Nat) (x : World) (va vs : Nat) (a : Mod.Ag) (k : Mod.Sk) (G : Nat → Prop) (H : Ends C D B N x va vs a k G) (hN : N + 1 < top) :
  Calls Tryz.prog 31 #[ptrTo va, ptrTo vs] x fun r y => r = .returned (.tuple #[.int .i64 a.tick.2.length, .bool (exchM a k).2.2]) ∧ Ends C D B (N + 1) y va vs (exchM a k).1 (exchM a k).2.1 G ∧ Same B G x y := by
 have HT := hide (H.tick (by omega))
 have hsm := (tick_small H.ga).1
 have HB := hide H.bx
 have HGX := hide (fun j (hj : G j) => (H.all.elim fun _ h => h.elim fun _ h => (h.2.2.2.2.2 j hj).1))
 have hex : exchM a k = tellM (a.tick.1, k, true) a.tick.2 := rfl
 rw [hex]
 obtain ⟨FL, hFL⟩ : ∃ FL, FL = a.tick.2 := ⟨_, rfl⟩
 rw [← hFL] at HT hsm ⊢
 generalize a.tick.1 = a1 at HT ⊢
 clear H hex hFL
 unfold ptrTo at *
 go_enter Tryz.func31, Tryz.ntmps31
 go_upto_region 2 with (go_at_call 24; refine (unhide HT).mono ?_; rintro r y ⟨lv, fs, rfl, k1, k2, k3⟩; obtain ⟨ad, cap, e, _⟩ := (own_rowO k1.row).shape; rw [show fs.length = FL.length by rw [k1.len]; simp] at e; subst e; have hzy := k3.size; have HO := hide k1; have HE := hide k2; have HS := hide k3; clear k1 k2 k3)
 go_wp2
 go_loopw [7, 8, 9, 10, 11, 12] (fun ok i _ _ _ _ wr => ∃ j : Nat, j ≤ FL.length ∧ i = .int .i64 j ∧ ok = .bool (tellM (a1, k, true) (FL.take j)).2.2 ∧ Ends C D B (N + 1) wr va vs (tellM (a1, k, true) (FL.take j)).1 (tellM (a1, k, true) (FL.take j)).2.1 (fun q => G q ∨ Outs (.slice ad FL.length cap) fs q) ∧ Same B (fun q => G q ∨ Outs (.slice ad FL.length cap) fs q) y wr) (fun _ i _ _ _ _ _ => FL.length - (intOf i).toNat)
 case atStart => exact ⟨0, by omega, rfl, rfl, unhide HE, Same.refl _ _ _⟩
 case round =>
  obtain ⟨j, hj, rfl, rfl, hE, hS⟩ := hrel
  obtain ⟨aj, kj, okj, hT3⟩ : ∃ a k' o, tellM (a1, k, true) (FL.take j) = (a, k', o) := ⟨_, _, _, rfl⟩
  rw [hT3] at hE ⊢
  by_cases hlt : j < FL.length
  ·have hO2 := (unhide HO).keep (fun q hq => hS.rest q ((unhide HO).lt q hq).2 (fun e => e.2 (.inr hq)))
   obtain ⟨v, hv, hown⟩ := hO2.get j (by simpa using hlt)
   simp only [List.getElem_map] at hown
   have hlf : fs.length = FL.length := by rw [(unhide HO).len]; simp
   have hrow := hO2.row
   rw [hlf] at hrow
   have h0 : 0 < FL.length := by omega
   obtain ⟨g, c2, hadd⟩ := own_shapeB hrow h0
   injection hadd with hadd _ hcc
   subst hadd
   subst hcc
   have cj := World.ownsRow.cellAt hrow j (by omega)
   rw [hv] at cj
   obtain ⟨vad, vcap, ev, _⟩ := (own_rowO hown).shape
   rw [ev] at cj hown
   obtain ⟨nl, hnl⟩ : ∃ nl, nl = FL[j].length := ⟨_, rfl⟩
   have hTN : Hid (tellM (a1, k, true) (FL.take (j + 1)) = tellM (aj, kj, okj) [FL[j]]) := by
    show _ = _
    rw [List.take_add_one, List.getElem?_eq_getElem hlt]
    show tellM _ (FL.take j ++ [FL[j]]) = _
    rw [tellM_snoc, hT3]
   have hat := Owns.at hown
   have HD := hide (hE.take _ FL[j] (by simpa using hat))
   have htm : tellM (aj, kj, okj) [FL[j]] = ((hearM (aj, okj && ((skSays kj FL[j]).1 == 0)) (skSays kj FL[j]).2.2).1, (skSays kj FL[j]).2.1, (hearM (aj, okj && ((skSays kj FL[j]).1 == 0)) (skSays kj FL[j]).2.2).2) := rfl
   rw [htm] at hTN
   clear htm hat hown hv hrow
   have hFRl : (skSays kj FL[j]).2.2.length ≤ 1 := (skSays_small kj FL[j]).1
   generalize (skSays kj FL[j]).2.1 = k2 at HD hTN
   generalize (skSays kj FL[j]).1 = er at HD hTN
   generalize (skSays kj FL[j]).2.2 = FR at HD hTN hFRl
   have HE1 := hide hE
   have HS1 := hide hS
   have HO1 := hide hO2
   have hgl := (World.ownsRow.lt (unhide HO1).row g rfl).2
   have HJ := hide (And.intro hlt hj)
   have hjn : (j : Int) < (FL.length : Int) := by omega
   have hj0 : (0 : Int) ≤ (j : Int) := by omega
   have hcl : FL.length ≤ cap := by
    rcases (unhide HO1).row.2 with ⟨h, _⟩ | ⟨g', cap', cur, h, _, _, h2, _⟩
    ·cases h
    ·injection h with _ _ h3
     have := (unhide HO1).len
     simp at this
     omega
   unfold ptrTo at HD
   generalize hfl : FL[j].length = fl at *
   have HFL := hide hfl
   clear hfl
   cases okj with
   | false =>
    go_upto_region 7 with (go_at_call 27; refine (unhide HD).mono ?_; rintro r y1 ⟨lv2, fs2, rfl, k1, k2, k3⟩; obtain ⟨ad2, cap2, e, _⟩ := (own_rowO k1.row).shape; rw [k1.len] at e; subst e; have hzy2 := k3.size; have HO2 := hide k1; have HE2 := hide k2; have HS2 := hide k3; clear k1 k2 k3)
    go_upto_region 8 with fail
    simp only [Bool.false_and] at hTN
    clear HD cj hjn hj0
    go_wp2
    go_loopw [7, 11, 12] (fun ok i2 _ wr2 => ∃ j2 : Nat, j2 ≤ FR.length ∧ i2 = .int .i64 j2 ∧ ok = .bool (hearM (aj, false) (FR.take j2)).2 ∧ Ends C D B (N + 1) wr2 va vs (hearM (aj, false) (FR.take j2)).1 k2 (fun q => (G q ∨ Outs (.slice (some ⟨g, 0, none⟩) FL.length cap) fs q) ∨ Outs (.slice ad2 FR.length cap2) fs2 q) ∧ Same B (fun q => (G q ∨ Outs (.slice (some ⟨g, 0, none⟩) FL.length cap) fs q) ∨ Outs (.slice ad2 FR.length cap2) fs2 q) y1 wr2) (fun _ i2 _ _ => FR.length - (intOf i2).toNat)
    case atStart => exact ⟨0, by omega, rfl, rfl, unhide HE2, Same.refl _ _ _⟩
    case round =>
     obtain ⟨j2, hj2, rfl, rfl, hE3, hS3⟩ := hrel
     obtain ⟨a2, o2, hT2⟩ : ∃ a o, hearM (aj, false) (FR.take j2) = (a, o) := ⟨_, _, rfl⟩
     rw [hT2] at hE3 ⊢
     by_cases hlt2 : j2 < FR.length
     ·have hO3 := (unhide HO2).keep (fun q hq => hS3.rest q ((unhide HO2).lt q hq).2 (fun e => e.2 (.inr hq)))
      obtain ⟨v2, hv2, hown2⟩ := hO3.get j2 hlt2
      have hlf2 := (unhide HO2).len
      have hrow2 := hO3.row
      rw [hlf2] at hrow2
      have h02 : 0 < FR.length := by omega
      obtain ⟨g2, c3, hadd2⟩ := own_shapeB hrow2 h02
      injection hadd2 with hadd2 _ hcc2
      subst hadd2
      subst hcc2
      have cj2 := World.ownsRow.cellAt hrow2 j2 (by omega)
      rw [hv2] at cj2
      obtain ⟨vad2, vcap2, ev2, _⟩ := (own_rowO hown2).shape
      rw [ev2] at cj2 hown2
      have hTN2 : Hid (hearM (aj, false) (FR.take (j2 + 1)) = ((agSays a2 FR[j2].data.toList).2, o2 && ((agSays a2 FR[j2].data.toList).1 == 0))) := by
       show _ = _
       rw [List.take_add_one, List.getElem?_eq_getElem hlt2]
       show hearM _ (FR.take j2 ++ [FR[j2]]) = _
       rw [hearM_snoc, hT2]
      have hat2 := Owns.at hown2
      have HD2 := hide (hE3.hear hN _ FR[j2].data.toList hat2)
      generalize (agSays a2 FR[j2].data.toList).2 = a3 at HD2 hTN2
      generalize (agSays a2 FR[j2].data.toList).1 = er2 at HD2 hTN2
      have hgl2 := (World.ownsRow.lt hO3.row g2 rfl).2
      have hcl2 : FR.length ≤ cap2 := by
       rcases hO3.row.2 with ⟨h, _⟩ | ⟨g', cap', cur, h, _, _, h2, _⟩
       ·cases h
       ·injection h with _ _ h3
        omega
      have hjn2 : (j2 : Int) < (FR.length : Int) := by omega
      have hj02 : (0 : Int) ≤ (j2 : Int) := by omega
      have HE3 := hide hE3
      have HS3 := hide hS3
      clear hat2 hown2 hv2 hrow2 hE3 hS3 hO3 hT2 ev2 hlf2
      unfold ptrTo at HD2
      generalize hfl2 : FR[j2].data.toList.length = fl2 at *
      have HFL2 := hide hfl2
      clear hfl2
      cases o2
      all_goals
       go_upto_region 12 with (go_at_call 28; refine (unhide HD2).mono ?_; rintro r y2 ⟨rfl, k1, k2⟩; have HE4 := hide k1; have HS4 := hide k2; clear k1 k2)
       simp only [Bool.false_and, Bool.true_and] at hTN2
       go_wp2
       go_roundw
       case rel => exact ⟨j2 + 1, by omega, by go_num, by rw [unhide hTN2], by rw [unhide hTN2]; exact unhide HE4, (unhide HS3).trans (unhide HS4) (fun _ _ h => h)⟩
       case measure => simp [intOf]; omega
     ·have hj2e : j2 = FR.length := by omega
      subst hj2e
      rw [List.take_length] at hT2
      rw [hT2] at hTN
      have HE3 := hide hE3
      have HS3 := hide hS3
      clear hE3 hS3 hT2
      go_wp2
      go_roundw
      case rel =>
       refine ⟨j + 1, by have := (unhide HJ).1; omega, by go_num, by rw [unhide hTN], by rw [unhide hTN]; exact (unhide HE3).mono (fun q h => .inl h) (Nat.le_refl _), ?_⟩
       exact ((unhide HS1).trans (unhide HS2) (fun _ _ h => h)).trans (unhide HS3) (fun _ _ h => .inl h)
      case measure =>
       have := (unhide HJ).1
       simp [intOf]
       omega
   | true =>
    go_upto_region 7 with (go_at_call 27; refine (unhide HD).mono ?_; rintro r y1 ⟨lv2, fs2, rfl, k1, k2, k3⟩; obtain ⟨ad2, cap2, e, _⟩ := (own_rowO k1.row).shape; rw [k1.len] at e; subst e; have hzy2 := k3.size; have HO2 := hide k1; have HE2 := hide k2; have HS2 := hide k3; clear k1 k2 k3)
    go_upto_region 8 with fail
    simp only [Bool.true_and] at hTN
    obtain ⟨e0, he0⟩ : ∃ e0, e0 = (er == 0) := ⟨_, rfl⟩
    rw [← he0] at hTN
    rw [← he0]
    clear he0
    clear HD cj hjn hj0
    go_wp2
    go_loopw [7, 11, 12] (fun ok i2 _ wr2 => ∃ j2 : Nat, j2 ≤ FR.length ∧ i2 = .int .i64 j2 ∧ ok = .bool (hearM (aj, e0) (FR.take j2)).2 ∧ Ends C D B (N + 1) wr2 va vs (hearM (aj, e0) (FR.take j2)).1 k2 (fun q => (G q ∨ Outs (.slice (some ⟨g, 0, none⟩) FL.length cap) fs q) ∨ Outs (.slice ad2 FR.length cap2) fs2 q) ∧ Same B (fun q => (G q ∨ Outs (.slice (some ⟨g, 0, none⟩) FL.length cap) fs q) ∨ Outs (.slice ad2 FR.length cap2) fs2 q) y1 wr2) (fun _ i2 _ _ => FR.length - (intOf i2).toNat)
    case atStart => exact ⟨0, by omega, rfl, rfl, unhide HE2, Same.refl _ _ _⟩
    case round =>
     obtain ⟨j2, hj2, rfl, rfl, hE3, hS3⟩ := hrel
     obtain ⟨a2, o2, hT2⟩ : ∃ a o, hearM (aj, e0) (FR.take j2) = (a, o) := ⟨_, _, rfl⟩
     rw [hT2] at hE3 ⊢
     by_cases hlt2 : j2 < FR.length
     ·have hO3 := (unhide HO2).keep (fun q hq => hS3.rest q ((unhide HO2).lt q hq).2 (fun e => e.2 (.inr hq)))
      obtain ⟨v2, hv2, hown2⟩ := hO3.get j2 hlt2
      have hlf2 := (unhide HO2).len
      have hrow2 := hO3.row
      rw [hlf2] at hrow2
      have h02 : 0 < FR.length := by omega
      obtain ⟨g2, c3, hadd2⟩ := own_shapeB hrow2 h02
      injection hadd2 with hadd2 _ hcc2
      subst hadd2
      subst hcc2
      have cj2 := World.ownsRow.cellAt hrow2 j2 (by omega)
      rw [hv2] at cj2
      obtain ⟨vad2, vcap2, ev2, _⟩ := (own_rowO hown2).shape
      rw [ev2] at cj2 hown2
      have hTN2 : Hid (hearM (aj, e0) (FR.take (j2 + 1)) = ((agSays a2 FR[j2].data.toList).2, o2 && ((agSays a2 FR[j2].data.toList).1 == 0))) := by
       show _ = _
       rw [List.take_add_one, List.getElem?_eq_getElem hlt2]
       show hearM _ (FR.take j2 ++ [FR[j2]]) = _
       rw [hearM_snoc, hT2]
      have hat2 := Owns.at hown2
      have HD2 := hide (hE3.hear hN _ FR[j2].data.toList hat2)
      generalize (agSays a2 FR[j2].data.toList).2 = a3 at HD2 hTN2
      generalize (agSays a2 FR[j2].data.toList).1 = er2 at HD2 hTN2
      have hgl2 := (World.ownsRow.lt hO3.row g2 rfl).2
      have hcl2 : FR.length ≤ cap2 := by
       rcases hO3.row.2 with ⟨h, _⟩ | ⟨g', cap', cur, h, _, _, h2, _⟩
       ·cases h
       ·injection h with _ _ h3
        omega
      have hjn2 : (j2 : Int) < (FR.length : Int) := by omega
      have hj02 : (0 : Int) ≤ (j2 : Int) := by omega
      have HE3 := hide hE3
      have HS3 := hide hS3
      clear hat2 hown2 hv2 hrow2 hE3 hS3 hO3 hT2 ev2 hlf2
      unfold ptrTo at HD2
      generalize hfl2 : FR[j2].data.toList.length = fl2 at *
      have HFL2 := hide hfl2
      clear hfl2
      cases o2
      all_goals
       go_upto_region 12 with (go_at_call 28; refine (unhide HD2).mono ?_; rintro r y2 ⟨rfl, k1, k2⟩; have HE4 := hide k1; have HS4 := hide k2; clear k1 k2)
       simp only [Bool.false_and, Bool.true_and] at hTN2
       go_wp2
       go_roundw
       case rel => exact ⟨j2 + 1, by omega, by go_num, by rw [unhide hTN2], by rw [unhide hTN2]; exact unhide HE4, (unhide HS3).trans (unhide HS4) (fun _ _ h => h)⟩
       case measure => simp [intOf]; omega
     ·have hj2e : j2 = FR.length := by omega
      subst hj2e
      rw [List.take_length] at hT2
      rw [hT2] at hTN
      have HE3 := hide hE3
      have HS3 := hide hS3
      clear hE3 hS3 hT2
      go_wp2
      go_roundw
      case rel =>
       refine ⟨j + 1, by have := (unhide HJ).1; omega, by go_num, by rw [unhide hTN], by rw [unhide hTN]; exact (unhide HE3).mono (fun q h => .inl h) (Nat.le_refl _), ?_⟩
       exact ((unhide HS1).trans (unhide HS2) (fun _ _ h => h)).trans (unhide HS3) (fun _ _ h => .inl h)
      case measure =>
       have := (unhide HJ).1
       simp [intOf]
       omega
  ·have hje : j = FL.length := by omega
   subst hje
   rw [List.take_length] at hT3
   have HE1 := hide hE
   have HS1 := hide hS
   clear hE hS
   go_wp2
   go_ret2
   exact ⟨rfl, (unhide HE1).mono (fun q h => .inl h) (Nat.le_refl _), (unhide HS).trans (unhide HS1) (fun _ _ h => .inl h)⟩
end Go.Proofs.YtamafdcnbcoegaaGreat
namespace Go.Proofs.YtamafdcnbcoegaaGreat
def sk00 : Mod.Sk := { epoch := 0, logs := fun _ => [], held := [] }
end Go.Proofs.YtamafdcnbcoegaaGreat
namespace Go.Proofs.YtamafdcnbcoegaaGreat
open Go.RowKit
theorem agGood_zero (n : Nat) : AgGood n ag0 := ⟨by simp [ag0], by simp [ag0], by simp [ag0], fun s hs x hx => by simp [ag0] at hx⟩
end Go.Proofs.YtamafdcnbcoegaaGreat
namespace Go.Proofs.YtamafdcnbcoegaaGreat
open Go.RowKit
section
variable {top : Nat} {C : AgentC top} {D : SinkC} {B i : Nat} {x y : World} {va vs g : Nat} {xs : Nat → Nat} {wv : Nat → Value}
end
def exN (a : Mod.Ag) (k : Mod.Sk) : Nat → Mod.Ag × Mod.Sk
 | 0 => (a, k)
 | j + 1 => ((exchM (exN a k j).1 (exN a k j).2).1, (exchM (exN a k j).1 (exN a k j).2).2.1)
theorem exN_succ (a : Mod.Ag) (k : Mod.Sk) (j : Nat) : exN a k (j + 1) = ((exchM (exN a k j).1 (exN a k j).2).1, (exchM (exN a k j).1 (exN a k j).2).2.1) := rfl
end Go.Proofs.YtamafdcnbcoegaaGreat
namespace Go.Proofs.YtamafdcnbcoegaaGreat
def kn0 : Mod.Ag := agSubmits (agSubmits { epoch := 1, ticks := 0, welcome := false, fenced := false, fl := fun _ => { base := 0, kept := [], held := [] } } 1 ⟨#[120]⟩) 1 ⟨#[121]⟩
theorem kn_ok : ∀ j, j < 3 → (exchM (exN kn0 sk00 j).1 (exN kn0 sk00 j).2).2.2 = true := by decide +kernel
theorem kn_spool : agSpools (exN kn0 sk00 3).1 1 = [] := by decide +kernel
theorem kn_ref : (exN kn0 sk00 3).1.refuses 1 1 = 0 := by decide +kernel
theorem kn_more : agSpools (agSubmits (exN kn0 sk00 3).1 1 ⟨#[122]⟩) 1 = [⟨#[122]⟩] := by decide +kernel
end Go.Proofs.YtamafdcnbcoegaaGreat
namespace Go.Proofs.YtamafdcnbcoegaaGreat
open Go.RowKit
def ag00 : Mod.Ag := { epoch := 1, ticks := 0, welcome := false, fenced := false, fl := fun _ => { base := 0, kept := [], held := [] } }
theorem kn_is : kn0 = agSubmits (agSubmits ag00 1 ⟨#[120]⟩) 1 ⟨#[121]⟩ := rfl
theorem kn_x : ag00.refuses 1 (⟨#[120]⟩ : ByteArray).size = 0 := by decide +kernel
theorem kn_y : (agSubmits ag00 1 ⟨#[120]⟩).refuses 1 (⟨#[121]⟩ : ByteArray).size = 0 := by decide +kernel
theorem kn_logs : skLogs (exN kn0 sk00 3).2 1 = [⟨#[120]⟩, ⟨#[121]⟩] := by decide +kernel
theorem ends_start {top : Nat} {C : AgentC top} {D : SinkC} {w x1 x2 : World} {va vs : Nat} {U V : Nat → Prop} (a1 : C.At x1 va ag00 U) (a2 : Below w.heap.size w x1) (a3 : ∀ j, U j → w.heap.size ≤ j) (s1 : D.At x2 vs sk00 V) (s2 : Below x1.heap.size x1 x2) (s3 : ∀ j, V j → x1.heap.size ≤ j) :
  Ends C D w.heap.size 0 x2 va vs ag00 sk00 (fun _ => False) ∧ Below w.heap.size w x2 := by
 have hw1 := a2.size
 have hw2 := s2.size
 have hUl := C.lt a1
 exact ⟨⟨⟨U, V, C.far a1 (E := fun _ => False) (far_below s2) (fun _ _ e => e), s1, fun j hj e => by have := hUl j hj; have := s3 j e; omega, a3, fun j hj => Nat.le_trans hw1 (s3 j hj), fun j hj => hj.elim⟩, agGood_zero 0, skGood_new, by omega⟩, a2.trans (s2.mono hw1)⟩
theorem keepAgent_00 {top : Nat} (C : AgentC top) (w : World) :
  Calls Tryz.prog 18 #[] w fun r y => ∃ v U, r = .returned (ptrTo v) ∧ C.At y v ag00 U ∧ Below w.heap.size w y ∧ ∀ j, U j → w.heap.size ≤ j := keepAgent_any C w
theorem keepSink_00 (D : SinkC) (w : World) :
  Calls Tryz.prog 19 #[] w fun r y => ∃ v U, r = .returned (ptrTo v) ∧ D.At y v sk00 U ∧ Below w.heap.size w y ∧ ∀ j, U j → w.heap.size ≤ j := keepSink_any D w
def OutL (B : Nat) (w : World) (v : Value) (l : List ByteArray) : Prop := ∃ ad cap, v = .slice ad l.length cap ∧ l.length ≤ cap ∧ cap ≤ maxLen ∧ (0 < l.length → ∃ g o, ad = some ⟨g, o, none⟩ ∧ B ≤ g ∧ g < w.heap.size ∧ ∀ i, i < l.length → w.cell? ⟨g, o + i, none⟩ = (strs l)[i]?)
theorem outL {B : Nat} {w : World} {v : Value} {l : List ByteArray} (h : w.ownsRow B 9 1 v l.length (strs l)) : OutL B w v l := by
 have hl := listAt_own h
 obtain ⟨ad, cap, e, h1, h2, h3⟩ := hl
 rw [strs_length] at e h1 h3
 refine ⟨ad, cap, e, h1, h2, fun h0 => ?_⟩
 obtain ⟨g, o, e2, h4, h5⟩ := h3 h0
 have := World.ownsRow.lt h g (by rw [e, e2]; rfl)
 exact ⟨g, o, e2, this.1, h4, fun i hi => h5 i hi⟩
theorem OutL.far {B : Nat} {x y : World} {v : Value} {l : List ByteArray} {E : Nat → Prop} (h : OutL B x v l) (hF : Far E x y) (hE : ∀ j, B ≤ j → j < x.heap.size → ¬ E j) : OutL B y v l := by
 obtain ⟨ad, cap, e, h1, h2, h3⟩ := h
 refine ⟨ad, cap, e, h1, h2, fun h0 => ?_⟩
 obtain ⟨g, o, e2, h4, h5, h6⟩ := h3 h0
 exact ⟨g, o, e2, h4, Nat.lt_of_lt_of_le h5 hF.size, fun i hi => by rw [← h6 i hi]; unfold World.cell?; simp only [hF.rest g h5 (hE g h4 h5)]⟩
set_option maxRecDepth 100000 in
set_option maxHeartbeats 4000000 in
theorem known_any {top : Nat} (C : AgentC top) (D : SinkC) (ht : 1000 ≤ top) (w : World) :
  Calls Tryz.prog 20 #[] w fun r y => r = .returned (.bool true) ∧ Below w.heap.size w y := by
 go_enter Tryz.func20, Tryz.ntmps20
 go_upto_region 2 with (go_at_call 18; refine (keepAgent_00 C _).mono ?_; rintro r x1 ⟨va, U, rfl, k1, k2, k3⟩; have HA := hide (And.intro k1 (And.intro k2 k3)); clear k1 k2 k3)
 go_upto_region 3 with (go_at_call 19; refine (keepSink_00 D _).mono ?_; rintro r x2 ⟨vs, V, rfl, k1, k2, k3⟩; have HS := hide (And.intro k1 (And.intro k2 k3)); clear k1 k2 k3)
 unfold ptrTo at *
 have HE := hide (ends_start (unhide HA).1 (unhide HA).2.1 (unhide HA).2.2 (unhide HS).1 (unhide HS).2.1 (unhide HS).2.2)
 clear HA HS
 have H1 := (unhide HE).1.submit (by omega) 1 ⟨#[120]⟩
 rw [kn_x] at H1
 replace H1 := hide H1
 unfold ptrTo at H1
 go_upto_region 6 with (go_at_call 21; refine (unhide H1).mono ?_; rintro r y1 ⟨rfl, k1, k2⟩; have HE1 := hide (And.intro k1 ((unhide HE).2.trans (k2.bel (unhide HE).1.bx))); clear k1 k2)
 clear HE H1
 have H2 := (unhide HE1).1.submit (by omega) 1 ⟨#[121]⟩
 rw [kn_y, ← kn_is] at H2
 replace H2 := hide H2
 unfold ptrTo at H2
 go_upto_region 7 with (go_at_call 21; refine (unhide H2).mono ?_; rintro r y2 ⟨rfl, k1, k2⟩; have HE2 := hide (And.intro k1 ((unhide HE1).2.trans (k2.bel (unhide HE1).1.bx))); clear k1 k2)
 clear HE1 H2
 have HOK := hide kn_ok
 have HLG := hide kn_logs
 have HSP := hide kn_spool
 have HRF := hide kn_ref
 have HMO := hide kn_more
 have hz : exN kn0 sk00 0 = (kn0, sk00) := rfl
 have hs := exN_succ kn0 sk00
 generalize exN kn0 sk00 = A4 at HOK HLG HSP HRF HMO hz hs
 have HZ := hide hz
 have HN4 := hide hs
 clear hz hs
 go_wp2
 go_loopw [5, 6, 7] (fun i _ _ wr => ∃ t : Nat, t ≤ 3 ∧ i = .int .i64 t ∧ Ends C D w.heap.size (2 + t) wr va vs (A4 t).1 (A4 t).2 (fun _ => False) ∧ Below w.heap.size w wr) (fun i _ _ _ => 3 - (intOf i).toNat)
 case atStart =>
  refine ⟨0, by omega, rfl, ?_, (unhide HE2).2⟩
  rw [unhide HZ]
  exact (unhide HE2).1
 case round =>
  obtain ⟨t4, ht4, rfl, hE, hB⟩ := hrel
  clear HE2
  by_cases hlt4 : t4 < 3
  ·have hji : (t4 : Int) < 3 := by omega
   have HX0 := exchange_any C D w.heap.size (2 + t4) _ va vs _ _ _ hE (by omega)
   rw [(unhide HOK) t4 hlt4] at HX0
   have e4 := (unhide HN4) t4
   have e1 : (exchM (A4 t4).1 (A4 t4).2).1 = (A4 (t4 + 1)).1 := by rw [e4]
   have e2 : (exchM (A4 t4).1 (A4 t4).2).2.1 = (A4 (t4 + 1)).2 := by rw [e4]
   rw [e1, e2] at HX0
   clear e4 e1 e2
   generalize (((A4 t4).1.tick.2.length : Nat) : Int) = nx at HX0
   have HX := hide HX0
   have HBX := hide hE.bx
   have HB := hide hB
   unfold ptrTo at HX
   clear hE hB HX0
   go_wp2_with (go_at_call 31; refine (unhide HX).mono ?_; rintro r y7 ⟨rfl, k1, k2⟩; have HE7 := hide k1; have HS7 := hide k2; clear k1 k2)
   go_roundw
   case rel => exact ⟨t4 + 1, by omega, by go_num, unhide HE7, (unhide HB).trans ((unhide HS7).bel (unhide HBX))⟩
   case measure => simp [intOf]; omega
  ·have ht43 : t4 = 3 := by omega
   subst ht43
   have hji : ¬ ((3 : Nat) : Int) < 3 := by omega
   have HL0 := hE.log 1
   have hlg : skLogs (A4 3).2 1 = [⟨#[120]⟩, ⟨#[121]⟩] := unhide HLG
   rw [hlg] at HL0
   have HL := hide HL0
   have HB := hide hB
   have HE := hide hE
   unfold ptrTo at HL
   clear hE hB HL0 hlg
   go_upto_region 14 with (go_at_call 32; refine (unhide HL).mono ?_; rintro r z1 ⟨lv1, rfl, k1, k2, k3⟩; have HO1 := hide (outL k1); have HE1 := hide (And.intro k2 ((unhide HB).trans (k3.mono (unhide HB).size))); clear k1 k2 k3)
   have HL0 := (unhide HE1).1.spool 1
   have hlg : agSpools (A4 3).1 1 = [] := unhide HSP
   rw [hlg] at HL0
   have HK := hide HL0
   unfold ptrTo at HK
   clear HL0 hlg HE HL
   go_upto_region 15 with (go_at_call 26; refine (unhide HK).mono ?_; rintro r z2 ⟨lv2, rfl, k1, k2, k3⟩; have HO2 := hide (outL k1); have HE2 := hide (And.intro k2 ((unhide HE1).2.trans (k3.mono (unhide HE1).2.size))); have HF2 := hide k3; clear k1 k2 k3)
   have HU0 := (unhide HE2).1.submit (by omega) 1 ⟨#[122]⟩
   have hr0 : (A4 3).1.refuses 1 (⟨#[122]⟩ : ByteArray).size = 0 := unhide HRF
   rw [hr0] at HU0
   have HU := hide HU0
   unfold ptrTo at HU
   clear HU0 hr0 HE1 HK
   go_upto_region 16 with (go_at_call 21; refine (unhide HU).mono ?_; rintro r z3 ⟨rfl, k1, k2⟩; have HE3 := hide (And.intro k1 ((unhide HE2).2.trans (k2.bel (unhide HE2).1.bx))); have HF3 := hide k2; clear k1 k2)
   have HL0 := (unhide HE3).1.spool 1
   have hlg : agSpools (agSubmits (A4 3).1 1 ⟨#[122]⟩) 1 = [⟨#[122]⟩] := unhide HMO
   rw [hlg] at HL0
   have HK := hide HL0
   unfold ptrTo at HK
   clear HL0 hlg HU
   go_upto_region 17 with (go_at_call 26; refine (unhide HK).mono ?_; rintro r z4 ⟨lv4, rfl, k1, k2, k3⟩; have HO4 := hide (outL k1); have HB4 := hide ((unhide HE3).2.trans (k3.mono (unhide HE3).2.size)); have HF4 := hide k3; clear k1 k2 k3)
   have o1 := (unhide HO1).far (far_below (unhide HF2)) (fun _ _ _ e => e)
   have o1 := o1.far (unhide HF3) (fun j h1 h2 e => e.2 (by
    by_cases hj : j < z1.heap.size
    ·exact .inl (.inr ⟨h1, hj⟩)
    ·exact .inr ⟨by omega, h2⟩))
   have o1 := o1.far (far_below (unhide HF4)) (fun _ _ _ e => e)
   obtain ⟨ad1, cap1, rfl, l1, m1, n1⟩ := o1
   obtain ⟨g1, p1, rfl, _, _, n1⟩ := n1 (by decide)
   have c0 : z4.cell? ⟨g1, p1, none⟩ = some (.string ⟨#[120]⟩) := n1 0 (by decide)
   have c1 : z4.cell? ⟨g1, p1 + 1, none⟩ = some (.string ⟨#[121]⟩) := n1 1 (by decide)
   obtain ⟨ad2, cap2, rfl, l2, m2, _⟩ := unhide HO2
   obtain ⟨ad4, cap4, rfl, l4, m4, n4⟩ := unhide HO4
   obtain ⟨g4, p4, rfl, _, _, n4⟩ := n4 (by decide)
   have c4 : z4.cell? ⟨g4, p4, none⟩ = some (.string ⟨#[122]⟩) := n4 0 (by decide)
   clear n1 n4 HO1 HO2 HO4 HF2 HF3 HF4 HE2 HE3
   simp only [List.length_cons, List.length_nil, Nat.zero_add] at *
   go_wp2
   go_ret
   exact ⟨rfl, unhide HB4⟩
end Go.Proofs.YtamafdcnbcoegaaGreat
namespace Go.Proofs.YtamafdcnbcoegaaGreat
open Go.RowKit
def dig (n : Nat) : ByteArray := if n < 10 then ⟨#[UInt8.ofNat (48 + n)]⟩ else ⟨#[UInt8.ofNat (48 + n / 10), UInt8.ofNat (48 + n % 10)]⟩
theorem digB_small {n : Nat} (h : n < 100) : digB n = dig n := by
 unfold digB dig
 rw [digL]
 split
 ·rfl
 ·rw [digL, if_pos (by omega)]
  rfl
theorem dig_size (n : Nat) : (dig n).size ≤ 20 := by
 unfold dig
 split
 ·show 1 ≤ 20; omega
 ·show 2 ≤ 20; omega
def mdS (a : Mod.Sk) (i : Nat) : Mod.Sk := (skReply a 3 0 1 i (dig i)).1
def mdRun (n : Nat) : Nat → Mod.Sk
 | 0 => { epoch := 0, logs := fun _ => [], held := [] }
 | i + 1 => if i = n then mdRun n i else mdS (mdRun n i) (i + 1)
def mdFeed (a : Mod.Sk) (n : Nat) : Nat → Mod.Sk
 | 0 => a
 | k + 1 => mdS (mdFeed a n k) (n + k + 1)
def digs (m : Nat) : List ByteArray := (List.range m).map fun i => dig (i + 1)
def mdBad (n h j : Nat) : Mod.Sk := { epoch := 0, logs := skBadR (mdRun n (n + 2 + h)) 3 1 (n + 1) (dig (n + 1)) (j + 1), held := [] }
def mdFact (n h : Nat) : Bool :=
 decide ((mdRun n (n + 2 + h)).logs 1 = digs n) && decide ((mdRun n (n + 2 + h)).epoch = 0) && decide (skWr (mdRun n (n + 2 + h)) 3 0 1 (n + 1) (dig (n + 1)) = 2 + h)
  && decide ((mdFeed (mdS (mdRun n (n + 2 + h)) (n + 1)) n (2 + h)).logs 1 = digs (n + 2 + h))
  && (List.range (2 + h)).all fun j => decide ((mdBad n h j).logs 1 = digs (n + j)) && decide ((mdFeed (mdBad n h j) n (2 + h)).logs 1 = digs (n + 2 + h))
theorem mdFact_all : ∀ n, n < 12 → ∀ h, h < 3 → mdFact n h = true := by decide +kernel
def dlB (i : Nat) : List UInt8 := Wire.bytes 3 0 1 i (dig i).data.toList
theorem dl_proper {i : Nat} (h1 : 1 ≤ i) (h : i < 100) : Wire.proper 3 0 1 i (dig i) = true := by
 have := dig_size i
 simp [Wire.proper, Wire.isNum, Wire.isStr]
 omega
theorem says_dl (a : Mod.Sk) {i : Nat} (h1 : 1 ≤ i) (h : i < 100) : skSays a (dlB i) = (0, skReply a 3 0 1 i (dig i)) ∧ skW a (dlB i) = skWr a 3 0 1 i (dig i) ∧ ∀ n, skBad a (dlB i) n = skBadR a 3 1 i (dig i) n := by
 have hp := dl_proper h1 h
 have hsz := dig_size i
 obtain ⟨p0, p1, p2, p3, p4, p5⟩ := Wire.parts_bytes (b := dig i) (k := 3) (e := 0) (s := 1) (q := i) (by omega) (by omega) (by omega) (by omega) (by omega)
 have hr : Wire.reads (dlB i) = true := by unfold Wire.reads dlB; rw [p0, p1, p2, p3, p4, p5, hp]; rfl
 have e1 : Wire.kindOf (dlB i) = 3 := p1
 have e2 : Wire.epochOf (dlB i) = ((0 : Nat) : Int) := p2
 have e3 : Wire.streamOf (dlB i) = ((1 : Nat) : Int) := p3
 have e4 : Wire.seqOf (dlB i) = ((i : Nat) : Int) := p4
 have e5 : Wire.bodyOf (dlB i) = dig i := p5
 obtain ⟨k1, k2⟩ := skW_yes (a := a) hr e1 e2 e3 e4 e5
 exact ⟨skSays_yes hr e1 e2 e3 e4 e5, k1, k2⟩
theorem skWr_le {a : Mod.Sk} (G : SkGood a) (k e : Int) (s q : Nat) (b : ByteArray) : skWr a k e s q b ≤ 120 := by
 unfold skWr hiW
 have := commits_room (a := a) 3 a.epoch s q b G.room
 repeat' split
 all_goals omega
theorem digs_len (m : Nat) : (digs m).length = m := by simp [digs]
end Go.Proofs.YtamafdcnbcoegaaGreat
