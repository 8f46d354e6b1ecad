/-
  Walks of courierlaw's worlds: keep.
-/
import Derived.Test.YtamafdcnbcoegaaGreatH10
namespace Go.Proofs.YtamafdcnbcoegaaGreat
open Go.RowKit

/-- Ahead of the first append: the hold's own block and its bytes alone have been written. -/
structure Front (w x : World) (p wb : Nat) (cp : Array Value) (as_ ss hv : Value) (hs : List Nat) (bk : Value) (l : List UInt8) : Prop where
  pb : x.heap[p]? = some (.cells cp 110 (0, 0))
  wbk : x.heap[wb]? = some (.cells #[as_, ss, hv] 83 (0, 0))
  row : x.ownsRow 0 108 1 hv hs.length (hs.map ptrTo)
  rb : x.ownsRow 0 5 1 bk (bv l).length (bv l)
  far : Far (fun k => k = p ∨ bk.ownBlock = some k) w x
theorem blk_ne {w : World} {p q : Nat} {c d : Array Value} {e e' : TypeId} {fr fr' : Nat × Nat} (h : w.heap[p]? = some (.cells c e fr)) (h' : w.heap[q]? = some (.cells d e' fr')) (hne : e ≠ e') : p ≠ q := by
  rintro rfl
  rw [h] at h'
  injection h' with h'
  injection h' with _ h' _
  exact hne h'
theorem Front.set {w x : World} {p wb : Nat} {cp : Array Value} {as_ ss hv bk : Value} {hs : List Nat} {l : List UInt8} (F : Front w x p wb cp as_ ss hv hs bk l) (j : Nat) (v : Value) : Front w (x.setCell ⟨p, j, none⟩ v) p wb (cp.setIfInBounds j v) as_ ss hv hs bk l :=
  ⟨blk_set F.pb, (blk_set_ne (blk_ne F.wbk F.pb (by decide))).trans F.wbk, own_set F.row F.pb (by decide), own_set F.rb F.pb (by decide), F.far.trans (far_set x p j v) (fun _ _ h => .inl h)⟩
theorem Front.below {w x y : World} {p wb : Nat} {cp : Array Value} {as_ ss hv bk : Value} {hs : List Nat} {l : List UInt8} (F : Front w x p wb cp as_ ss hv hs bk l) (h : Below x.heap.size x y) : Front w y p wb cp as_ ss hv hs bk l := by
  have hf : Far (fun _ => False) x y := far_below h
  exact ⟨hf.blk F.pb id, hf.blk F.wbk id, hf.own F.row (fun _ _ => id), hf.own F.rb (fun _ _ => id), F.far.trans hf (fun _ _ h => h.elim)⟩
theorem Front.bytes {w x y : World} {p wb : Nat} {cp : Array Value} {as_ ss hv bk : Value} {hs : List Nat} {l l2 : List UInt8} (F : Front w x p wb cp as_ ss hv hs bk l) (h : x.grownBy y bk.ownBlock) (hb : y.ownsRow 0 5 1 bk (bv l2).length (bv l2)) : Front w y p wb cp as_ ss hv hs bk l2 := by
  have hf := far_grown h
  exact ⟨hf.blk F.pb (own_ne F.rb F.pb (by decide)), hf.blk F.wbk (own_ne F.rb F.wbk (by decide)), hf.own F.row (fun g hg => own_ty F.row F.rb (by decide) hg), hb, F.far.trans hf (fun _ _ h => .inr h)⟩

theorem Loc.mono {w x : World} {a b : Value} (h : Loc x a b) (hs : w.heap.size ≤ x.heap.size) : Loc w a b := by
  rcases h with h | h | ⟨g, h, hg⟩
  · exact .inl h
  · exact .inr (.inl h)
  · exact .inr (.inr ⟨g, h, Nat.le_trans hs hg⟩)
/-- What all of keep may write. -/
def KeepE (p wb : Nat) (hv bk : Value) (k : Nat) : Prop := k = p ∨ bk.ownBlock = some k ∨ Us wb hv k
theorem Front.start {A : Nat → Nat → Prop} {w x Z : World} {p wb : Nat} {as_ ss hv hv3 bk : Value} {hs : List Nat} {l : List UInt8} {m : Int} {t : ByteArray}
    (F : Front w x p wb #[.slice none 0 0, bk, .slice none 0 0, .int .i64 m, .string t, .string ⟨l.toArray⟩] as_ ss hv hs bk l) (D : Add x Z wb as_ ss hv hv3 (hs.map ptrTo ++ [ptrTo p]))
    (hA : ∀ b o, A b o → b < w.heap.size ∧ b ≠ wb ∧ b ≠ p ∧ hv.ownBlock ≠ some b ∧ bk.ownBlock ≠ some b) (hall : ∀ q ∈ hs, HoldAt A w q) :
    Turn (KeepE p wb hv bk) w Z wb p as_ ss hv bk hv3 (.slice none 0 0) bk (.slice none 0 0) (hs ++ [p]) m t l [] 0 := by
  have hpw : p ≠ wb := fun e => blk_ne F.wbk F.pb (by decide) e.symm
  have hhp : hv.ownBlock ≠ some p := own_ne F.row F.pb (by decide)
  have hbp : bk.ownBlock ≠ some p := own_ne F.rb F.pb (by decide)
  have hup : ¬ Us wb hv p := fun e => e.elim hpw hhp
  have hub : ∀ g, bk.ownBlock = some g → ¬ Us wb hv g := fun g hg e => e.elim (fun e => own_ne F.rb F.wbk (by decide) (e ▸ hg)) (fun e => own_ty F.rb F.row (by decide) hg e)
  have hpb := D.far.blk F.pb hup
  have hrb := D.far.own F.rb hub
  have hnew : ∀ b, b < x.heap.size → ¬ Us wb hv b → ¬ Us wb hv3 b := by
    intro b hb hu e
    rcases e with e | e
    · exact hu (.inl e)
    · rcases D.loc with h | h | ⟨g, h, hg⟩
      · rw [h] at e; cases e
      · exact hu (.inr (h ▸ e))
      · rw [h] at e; injection e with e; omega
  have hpx := lt_of_block F.pb
  have hfar : Far (KeepE p wb hv bk) w Z := (F.far.mono (E' := KeepE p wb hv bk) (fun k _ h => h.elim .inl (fun h => .inr (.inl h)))).trans D.far (fun k _ h => .inr (.inr h))
  refine ⟨D.blk, by simpa using D.row, hpb, World.ownsRow_nil _ _ _ _, by rw [bv_length] at hrb; exact hrb, World.ownsRow_nil _ _ _ _, rfl, ?_, fun f hf => absurd hf List.not_mem_nil, hfar, D.loc.mono F.far.size, loc_nil _ _, .inr (.inl rfl), loc_nil _ _⟩
  intro q hq
  rcases List.mem_append.1 hq with hq | hq
  · refine ((hall q hq).keep (fun b o h => ?_)).mono (fun b o h => ?_)
    · obtain ⟨h1, h2, h3, h4, h5⟩ := hA b o h
      exact World.cell?_of_block (hfar.rest b h1 (fun e => e.elim h3 (fun e => e.elim h5 (fun e => e.elim h2 h4))))
    · obtain ⟨h1, h2, h3, h4, h5⟩ := hA b o h
      exact ⟨Nat.lt_of_lt_of_le h1 hfar.size, hnew b (Nat.lt_of_lt_of_le h1 F.far.size) (fun e => e.elim h2 h4), fun e => (by cases e), fun e => absurd e h5, fun e => (by cases e)⟩
  · rw [List.mem_singleton] at hq
    subst hq
    refine ⟨.slice none 0 0, bk, .slice none 0 0, 0, l, [], m, t, fun i _ => ⟨lt_of_block hpb, hnew q hpx hup, fun e => (by cases e), fun e => absurd e hbp, fun e => (by cases e)⟩, fun i _ => blk_cell hpb, ⟨none, 0, rfl, by simp, by unfold maxLen; omega, fun h => absurd h (by simp)⟩, ?_, ⟨none, 0, rfl, by simp, by unfold maxLen; omega, fun h => absurd h (by simp)⟩, fun f hf => absurd hf List.not_mem_nil⟩
    exact bat_of_row hrb fun g hg i hi => ⟨(World.ownsRow.lt hrb g hg).2, hnew g (World.ownsRow.lt F.rb g hg).2 (hub g hg), fun e => (by cases e), fun _ => hi, fun e => (by cases e)⟩
/-- The world's own things behind longer. -/
theorem Turn.mid {E : Nat → Prop} {w x X : World} {wb pk q : Nat} {as_ ss hv0 b0 hv tv bk fv tv2 bk2 fv2 : Value} {hs : List Nat} {m : Int} {t : ByteArray} {l l2 : List UInt8} {ts2 fs fs2 : List Value} {k : Nat} {cp cq : Array Value}
    (T : Turn E w x wb pk as_ ss hv0 b0 hv tv bk fv hs m t l fs k) (M : Mid x X pk q cp cq tv (List.replicate k (.string t)) bk l fv fs tv2 ts2 bk2 l2 fv2 fs2) :
    X.heap[wb]? = some (.cells #[as_, ss, hv] 83 (0, 0)) ∧ X.ownsRow 0 108 1 hv (hs.map ptrTo).length (hs.map ptrTo) := by
  refine ⟨(M.rest wb (lt_of_block T.wbk) (own_ne T.rt T.wbk (by decide)) (own_ne T.rb T.wbk (by decide)) (own_ne T.rf T.wbk (by decide))).trans T.wbk, ?_⟩
  rw [List.length_map]
  exact ownsRow_keep T.row (fun g hg => M.rest g (World.ownsRow.lt T.row g hg).2 (own_ty T.row T.rt (by decide) hg) (own_ty T.row T.rb (by decide) hg) (own_ty T.row T.rf (by decide) hg))

set_option maxRecDepth 100000 in
set_option maxHeartbeats 4000000 in
theorem keep_any (A : Nat → Nat → Prop) (w : World) (wb p : Nat) (as_ ss hv bk : Value) (hs : List Nat) (l : List UInt8) (H : WorldAt A w wb as_ ss hv hs)
    (hp : w.heap[p]? = some (.cells #[.slice none 0 0, bk, .slice none 0 0, .int .i64 0, .string ⟨#[]⟩, .string ⟨#[]⟩] 110 (0, 0))) (hbk : w.ownsRow 0 5 1 bk l.length (bv l))
    (hA : ∀ b o, A b o → b < w.heap.size ∧ b ≠ wb ∧ b ≠ p ∧ hv.ownBlock ≠ some b ∧ bk.ownBlock ≠ some b) (z1 : hs.length ≤ 10000000000000) (z2 : l.length ≤ 140737488353990) :
    Calls Tryz.prog 76 #[ptrTo wb, ptrTo p] w fun r w' => r = .returned (.tuple #[]) ∧ ∃ hv2 hs2, hs2.length = hs.length + 4 ∧ WorldAt (fun b _ => b < w'.heap.size ∧ ¬ Us wb hv2 b) w' wb as_ ss hv2 hs2 ∧
      Far (fun k => k = p ∨ bk.ownBlock = some k ∨ Us wb hv k) w w' ∧ Loc w hv hv2 := by
  obtain ⟨hblk, hrow, hall⟩ := H
  have F0 : Front w w p wb _ as_ ss hv hs bk l := ⟨hp, hblk, hrow, by rw [bv_length]; exact hbk, Far.refl _ _⟩
  have hrow' : Row (fun _ => True) w 108 hv (hs.map ptrTo) := ⟨by rw [List.length_map]; exact hrow, fun _ _ => trivial⟩
  obtain ⟨ha, hcap, hhv, h1, h2, h3⟩ := hrow'.shape
  rw [List.length_map] at hhv
  subst hhv
  have HA := hide hA
  have HALL := hide hall
  have c2 := blk_cell (i := 2) hblk
  have p3 := blk_cell (i := 3) hp
  have f3 := blk_free (i := 3) hp
  simp at c2 p3
  have FF0 := hide F0
  have n1 : (hs.length : Int) + 1 ≤ 9223372036854775807 := by omega
  clear hblk hrow hall hrow' h1 h2 h3 hA hp hbk F0
  unfold ptrTo
  go_enter Tryz.func76, Tryz.ntmps76
  go_upto_region 1 with fail
  refine wp_world (fun x => Front w x p wb #[.slice none 0 0, bk, .slice none 0 0, .int .i64 (hs.length + 1), .string ⟨#[]⟩, .string ⟨#[]⟩] as_ ss (.slice ha hs.length hcap) hs bk l) (by simpa using (unhide FF0).set 3 (.int .i64 (hs.length + 1))) ?_
  clear f3 c2 p3 FF0 n1
  generalize (hs.length : Int) + 1 = m
  intro x1 F1
  have p3 := blk_cell (i := 3) F1.pb
  simp at p3
  have FF1 := hide F1
  clear F1
  go_upto_region 2 with (go_at_call 114; refine (text_any _ _).mono ?_; rintro r x2 ⟨t, rfl, ht3, hb2⟩; have F2 := (unhide FF1).below hb2; have p4 := blk_cell (i := 4) F2.pb; have f4 := blk_free (i := 4) F2.pb; simp at p4; have FF2 := hide F2; have HT3 := hide ht3; clear F2 hb2 ht3 p3)
  refine wp_world (fun x => Front w x p wb #[.slice none 0 0, bk, .slice none 0 0, .int .i64 m, .string t, .string ⟨#[]⟩] as_ ss (.slice ha hs.length hcap) hs bk l) (by simpa using (unhide FF2).set 4 (.string t)) ?_
  clear p4 f4 FF2 FF1
  intro x3 F3
  have FF3 := hide F3
  clear F3
  go_upto_region 3 with (go_at_call 115; refine (marks_any p _ bk l m t ⟨#[]⟩ (unhide FF3).pb (unhide FF3).rb (by omega)).mono ?_; rintro r x4 ⟨rfl, l2, hl2, hown, hgr⟩; have F4 := (unhide FF3).bytes hgr hown; have FF4 := hide F4; have HL2 := hide hl2; clear F4 hgr hown hl2 FF3)
  have p1 := blk_cell (i := 1) (unhide FF4).pb
  have p5 := blk_cell (i := 5) (unhide FF4).pb
  have f5 := blk_free (i := 5) (unhide FF4).pb
  simp at p1 p5
  have hcs := (bat_of_row (A := fun _ _ => True) (by have := (unhide FF4).rb; exact this) (fun _ _ _ _ => trivial)).str
  go_upto_region 4 with fail
  refine wp_world (fun x => Front w x p wb #[.slice none 0 0, bk, .slice none 0 0, .int .i64 m, .string t, .string ⟨l2.toArray⟩] as_ ss (.slice ha hs.length hcap) hs bk l2) (by simpa using (unhide FF4).set 5 (.string ⟨l2.toArray⟩)) ?_
  clear p1 p5 f5 hcs FF4
  intro x5 F5
  have c2 := blk_cell (i := 2) F5.wbk
  simp at c2
  have FF5 := hide F5
  clear F5
  go_upto_region 5 with (at_builtin; (refine wpList_app1 rfl (.tmp 37) (.tmp 39) 81 rfl 108 (.pointer none) 8 Tryz.underlying81 info49 rfl (.slice ha hs.length hcap) (hs.map ptrTo) (World.ownsRow.alloc (by rw [List.length_map]; exact (unhide FF5).row) _) rfl ⟨x5.heap.size, 0, none⟩ (ptrTo p) rfl (by simp [ptrTo]) rfl (by rw [List.length_map]; omega) (by rw [List.length_map]; omega) ?_; intro v1 w1 hown1 hold1 happ1; obtain ⟨g1, cap1, hv1⟩ := own_shape hown1 (by simp); rw [show (hs.map ptrTo ++ [ptrTo p]).length = hs.length + 1 by simp] at hv1; subst hv1; have D := add_of (unhide FF5).wbk (by rw [List.length_map]; exact (unhide FF5).row) happ1 hown1; have hwb1 := app_blk happ1 (fun k hk => Below.heap_alloc x5 _ k hk) (by simp) (unhide FF5).wbk (own_ne (unhide FF5).row (unhide FF5).wbk (by decide)); have c21 := blk_cell (i := 2) hwb1; have f21 := blk_free (i := 2) hwb1; simp at c21; have DD := hide D; clear D hwb1 hown1 hold1 happ1))
  refine wp_world (fun x => Turn (KeepE p wb (.slice ha hs.length hcap) bk) w x wb p as_ ss (.slice ha hs.length hcap) bk (.slice (some ⟨g1, 0, none⟩) (hs.length + 1) cap1) (.slice none 0 0) bk (.slice none 0 0) (hs ++ [p]) m t l2 [] 0) ((unhide FF5).start (unhide DD) (unhide HA) (unhide HALL)) ?_
  clear c2 c21 f21 DD FF5 HA HALL
  intro x6 T6
  have TT6 := hide T6
  clear T6
  go_wp2
  go_loopw [4, 5] (fun g i wr => ∃ (k pk : Nat) (hv tv bk' fv : Value) (hs' : List Nat) (l' : List UInt8) (fs : List Value), k ≤ 3 ∧ g = .pointer (some ⟨pk, 0, none⟩) ∧ i = .int .i64 k ∧ hs'.length = hs.length + 1 + k ∧ l'.length = l.length + k ∧
    Turn (KeepE p wb (.slice ha hs.length hcap) bk) w wr wb pk as_ ss (.slice ha hs.length hcap) bk hv tv bk' fv hs' m t l' fs k) (fun _ i _ => 3 - (intOf i).toNat)
  case atStart => exact ⟨0, p, _, _, _, _, hs ++ [p], l2, [], by omega, rfl, rfl, by simp, unhide HL2, unhide TT6⟩
  case round =>
    obtain ⟨k, pk, hv, tv, bk', fv, hs', l', fs, hk, rfl, rfl, hhs, hll, T⟩ := hrel
    have HHS := hide hhs
    have HLL := hide hll
    have ht3 := unhide HT3
    have hl2 := unhide HL2
    have hlz : l'.length ≤ 140737488354000 := by omega
    have hsz : hs'.length ≤ 10000000000004 := by omega
    have htz : t.size ≤ 3 := by omega
    clear hhs hll ht3 hl2 HT3 TT6
    by_cases hlt : k < 3
    · have HL := hide (longer_any pk wr tv bk' fv k l' fs m t T.pb T.rt T.rb T.rf (by omega) hlz (by have := T.fk; omega) htz)
      have TT := hide T
      clear T hlz htz
      go_upto_region 10 with (go_at_call 116; refine (unhide HL).mono ?_; rintro r X ⟨q, tv2, bk2, fv2, v6, b, rfl, M, N⟩; have hX := (unhide TT).mid M; have x2 := blk_cell (i := 2) hX.1; simp at x2; have HX := hide hX; have MM := hide M; have NN := hide N; clear hX M N)
      simp only [ptrTo]
      go_upto_region 8 with (at_builtin; (refine wpList_app1 rfl (.tmp 54) (.tmp 56) 81 rfl 108 (.pointer none) 8 Tryz.underlying81 info49 rfl hv (hs'.map ptrTo) (World.ownsRow.alloc (unhide HX).2 _) rfl ⟨X.heap.size, 0, none⟩ (ptrTo q) rfl (by simp [ptrTo]) rfl (by rw [List.length_map]; omega) (by rw [List.length_map]; omega) ?_; intro v7 w7 hown7 hold7 happ7; obtain ⟨g7, cap7, hv7⟩ := own_shape hown7 (by simp); rw [show (hs'.map ptrTo ++ [ptrTo q]).length = hs'.length + 1 by simp] at hv7; subst hv7; have D := add_of (unhide HX).1 (unhide HX).2 happ7 hown7; have hwb7 := app_blk happ7 (fun k hk => Below.heap_alloc X _ k hk) (by simp) (unhide HX).1 (own_ne (unhide HX).2 (unhide HX).1 (by decide)); have c27 := blk_cell (i := 2) hwb7; have f27 := blk_free (i := 2) hwb7; simp at c27; have DD := hide D; clear D hwb7 hown7 hold7 happ7))
      have TN := hide ((unhide TT).next (unhide MM) (unhide NN) (fun _ _ => unhide DD) (fun g _ h => h.elim (fun h => .inr (.inr h)) (fun h => .inr (.inl h))))
      clear x2 c27 f27 DD
      go_wp2
      go_roundw
      case rel => exact ⟨k + 1, q, _, _, _, _, _, _, _, by omega, rfl, by go_num, by have := unhide HHS; simp; omega, by have := unhide HLL; simp; omega, unhide TN⟩
      case measure => simp [intOf]; omega
    · have hk3 : k = 3 := by omega
      subst hk3
      have TT := hide T
      clear T hlz htz
      go_wp2
      refine bodyPost_end (results_none rfl _ _ _) rfl ?_
      have T := unhide TT
      exact ⟨rfl, hv, hs', by have := unhide HHS; omega, ⟨T.wbk, T.row, fun q hq => (T.holds q hq).mono (fun b o h => ⟨h.1, h.2.1⟩)⟩, T.far, T.lh⟩
end Go.Proofs.YtamafdcnbcoegaaGreat
