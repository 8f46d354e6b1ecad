/-
  Part 15 of a proof: U5, U6, V1, V2, V3, T7, T8, V4.
-/
import Derived.Test.YtamafdcnbcoegaaGreatSd14
namespace Go.Proofs.YtamafdcnbcoegaaGreat
open Go.RowKit

theorem sendTo_small (e s : Nat) (f : Mod.Flow) (t : Nat) (hb : ∀ x ∈ f.kept, x.1.size ≤ 20) : ∀ i, (Mod.sendTo e s f t i).2.length ≤ i ∧ ∀ l ∈ (Mod.sendTo e s f t i).2, l.length ≤ 35
  | 0 => ⟨Nat.le_refl _, fun l hl => by cases hl⟩
  | i + 1 => by
    obtain ⟨h1, h2⟩ := sendTo_small e s f t hb i
    rw [Mod.sendTo]
    split
    · exact ⟨by omega, h2⟩
    · rename_i x hx
      split
      · refine ⟨by simp; omega, fun l hl => ?_⟩
        rw [List.mem_append, List.mem_singleton] at hl
        rcases hl with hl | rfl
        · exact h2 l hl
        · have := hb x (List.mem_of_getElem? hx)
          rw [Wire.length_bytes]
          simp
          omega
      · exact ⟨by omega, h2⟩
theorem tick_small {N : Nat} {a : Mod.Ag} (G : AgGood N a) : a.tick.2.length ≤ 12 ∧ ∀ l ∈ a.tick.2, l.length ≤ 35 := by
  unfold Mod.Ag.tick
  split
  · exact ⟨by simp, fun l hl => by cases hl⟩
  · split
    · refine ⟨by simp, fun l hl => ?_⟩
      rw [List.mem_singleton] at hl
      rw [hl, Wire.length_bytes]
      simp
    · have h := fun s (hs : s < 3) => sendTo_small a.epoch s (a.fl s) (a.ticks + 1) (fun x hx => (G.bod s hs x hx).1) 4
      have h0 := h 0 (by omega)
      have h1 := h 1 (by omega)
      have h2 := h 2 (by omega)
      simp only [Mod.sendOut, List.nil_append]
      refine ⟨by simp only [List.length_append]; omega, fun l hl => ?_⟩
      rw [List.mem_append, List.mem_append] at hl
      rcases hl with (hl | hl) | hl
      · exact h0.2 l hl
      · exact h1.2 l hl
      · exact h2.2 l hl

theorem map_back (L : List (List UInt8)) : ((L.map fun l => (⟨l.toArray⟩ : ByteArray)).map fun b => b.data.toList) = L := by
  rw [List.map_map]
  conv => rhs; rw [← List.map_id L]
  apply List.map_congr_left
  intro l _
  simp
set_option maxRecDepth 100000 in
theorem tick_same {top M X n : Nat} {C : AgentC top} {A : Nat → Nat → Prop} {w x1 x2 : World} {wb q sv rp f : Nat} {as_ ss hv lw kw : Value} {hs : List Nat} {fs : List Value} {L : List (List UInt8)} {a ap : Mod.Ag} {r : RRest} {kv hk : Nat → Value} {U U' : Nat → Prop} {left left' : Int} {i : Int} {s : ByteArray}
    (H : WorldAt A w wb as_ ss hv hs) (P : AgPairAt C M w q sv rp a r kv hk U left) (hA : ∀ b o, A b o → b < w.heap.size ∧ ¬ Us wb hv b ∧ ¬ AgPairU q rp kv hk U b) (hPU : ∀ k, AgPairU q rp kv hk U k → ¬ Us wb hv k)
    (T : AM C w x1 q sv rp a ap r kv kv hk hk U U' left' f i s) (O : FramesOut X x1 lw fs (L.map fun l => ⟨l.toArray⟩) U') (hX : w.heap.size ≤ X) (hS : RefStep x1 x2 rp ap r kv hk) (hR : x2.ownsRow x1.heap.size 9 1 kw n (txts L)) (hd : r.dead = false) (G : AgGood (M + 1) ap) (hL : L.length ≤ 12 ∧ ∀ l ∈ L, l.length ≤ 35) (zh : hs.length + 52 ≤ 17592186044416) :
    Calls Tryz.prog 120 #[ptrTo wb, lw, kw] x2 fun e y => e = .returned (.bool true) ∧ AgTaken C (M + 1) A w y wb q sv rp as_ ss hv ap r kv hk U (hs.length + 52) := by
  have hpl := P.lt
  have hul := H.us_lt
  have hOl : ∀ k, (lw.ownBlock = some k ∨ Done fs fs.length k) → X ≤ k ∧ k < x1.heap.size := O.lt
  obtain ⟨kvd, hkd, R', F', hN'⟩ := hS
  have T2 := T.stepAt R' F' hN'
  have hwx := T.far.size
  have hRU : ∀ k, (lw.ownBlock = some k ∨ Done fs fs.length k) → ¬ RefU rp kv hk k := fun k h hr => by have := hOl k h; have := hpl k (.inr (.inl hr)); omega
  have O2 := O.keep (x := x2) (fun k h => F'.rest k (hOl k h).2 (hRU k h))
  have hlen : fs.length = L.length := by have := O.len; simpa using this
  have H2 := H.far T2.far (fun k hu hp => hPU k hp hu) (fun b o h => ⟨(hA b o h).1, (hA b o h).2.2⟩)
  have hsz2 := T2.far.size
  have hz : ∀ j, (L.getD j []).length ≤ 1000 := by
    intro j
    rw [List.getD_eq_getElem?_getD]
    rcases Nat.lt_or_ge j L.length with h | h
    · have := hL.2 L[j] (List.getElem_mem h)
      rw [List.getElem?_eq_getElem h]
      simp only [Option.getD_some]
      omega
    · rw [List.getElem?_eq_none h]
      simp
  have hcase : ∀ k, AgPairU q rp kvd hkd U' k → AgPairU q rp kv hk U k ∨ w.heap.size ≤ k := by
    rintro k (h | h | h)
    · exact .inl (.inl h)
    · exact (T2.newR k h).imp (fun h => .inr (.inl h)) id
    · exact (T2.newU k h).imp (fun h => .inr (.inr h)) id
  have hpl2 : ∀ k, AgPairU q rp kvd hkd U' k → k < x2.heap.size := by
    rintro k (rfl | h | h)
    · exact lt_of_block T2.blk
    · exact T2.ref.lt k h
    · exact C.lt T2.prog k h
  have hE : ∀ k, AgPairU q rp kvd hkd U' k → ¬ ((lw.ownBlock = some k ∨ Done fs fs.length k) ∨ Us wb hv k) := by
    intro k hp
    rintro (e | e)
    · have h1 := hOl k e
      rcases hp with h | h | h
      · have := hpl k (.inl h); omega
      · rcases hN' k h with h | h
        · exact hRU k e h
        · omega
      · exact O.clear k e h
    · rcases hcase k hp with h | h
      · exact hPU k h e
      · have := hul k e; omega
  refine (same_yes A x2 wb as_ ss hv lw kw hs fs L H2 hlen (row_zero O2.row) (by have := listAt_own hR; exact this) (fun j v h => by have := row_zero (O2.each j v h); rw [map_back] at this; exact this) O2.apart ?_ (by omega) (by omega) hz).mono ?_
  · intro b o h
    refine ⟨by have := (hA b o h).1; omega, ?_⟩
    rintro (e | e | e)
    · have := hOl b (.inl e); have := (hA b o h).1; omega
    · have := hOl b (.inr e); have := (hA b o h).1; omega
    · exact (hA b o h).2.1 e
  · rintro e y ⟨rfl, hv3, hs3, hn3, W, F, Lc⟩
    refine ⟨rfl, hv3, hs3, kvd, hkd, U', left', by omega, W.mono ?_, ?_, ?_, ?_, ?_, Lc.mono hsz2⟩
    · rintro b o ⟨⟨h1, h2⟩, h3⟩
      refine ⟨h1, h2, fun hp => ?_, ?_⟩
      · rcases h3 with h | h | h
        · rcases hcase b hp with h' | h'
          · exact (hA b o h).2.2 h'
          · have := (hA b o h).1; omega
        · exact hE b hp (.inl h)
        · have := hpl2 b hp; omega
      · rcases h3 with h | h | h
        · exact .inl h
        · exact .inr (by have := hOl b h; omega)
        · exact .inr (by omega)
    · exact ⟨F.blk T2.blk (hE q (.inl rfl)), C.far T2.prog F (fun k h => hE k (.inr (.inr h))), T2.ref.far F (fun k h => hE k (.inr (.inl h))), hd, G, T2.qU, T2.qR, T2.UR⟩
    · exact hcase
    · rintro k hp (e | e)
      · exact hE k hp (.inr (.inl e))
      · rcases Lc with h | h | ⟨g', h, hg'⟩
        · rw [h] at e; cases e
        · exact hE k hp (.inr (.inr (h ▸ e)))
        · rw [h] at e; injection e with e; have := hpl2 k hp; omega
    · refine (T2.far.mono (E' := fun k => AgPairU q rp kv hk U k ∨ Us wb hv k) (fun _ _ h => .inl h)).trans F ?_
      rintro k hk' (e | e)
      · have := hOl k e; omega
      · exact .inr e

set_option maxRecDepth 100000 in
set_option maxHeartbeats 4000000 in
theorem onAgent_tick {top M : Nat} (C : AgentC top) (A : Nat → Nat → Prop) (w : World) (wb : Nat) (as_ ss hv : Value) (hs : List Nat) (nn i : Int) (s : ByteArray) (kp fk fe fst fq : Int) (fb : ByteArray) (q sv rp : Nat) (a : Mod.Ag) (r : RRest) (kv hk : Nat → Value) (U : Nat → Prop) (left : Int)
    (H : WorldAt A w wb as_ ss hv hs) (P : AgPairAt C M w q sv rp a r kv hk U left) (hM : M < top) (hM2 : M + 1 ≤ 2147483647) (hA : ∀ b o, A b o → b < w.heap.size ∧ ¬ Us wb hv b ∧ ¬ AgPairU q rp kv hk U b) (hPU : ∀ k, AgPairU q rp kv hk U k → ¬ Us wb hv k) (zh : hs.length + 52 ≤ 17592186044416) :
    Calls Tryz.prog 80 #[ptrTo wb, ptrTo q, opVal 5 nn i s kp fk fe fst fq fb] w fun x w' => x = .returned (.bool true) ∧ AgTaken C (M + 1) A w w' wb q sv rp as_ ss hv a.tick.1 r kv hk U (hs.length + 52) := by
  have HP := hide P
  have HH := hide H
  have HAA := hide hA
  have HPU := hide hPU
  have hd := hide P.dead
  have SM := hide (tick_small P.good)
  have HB := hide ((Below.refl w.heap.size w).alloc (Nat.le_refl _) (.cells #[.int .i64 5, .int .i64 nn, .int .i64 i, .string s, .int .u64 kp, .int .i64 fk, .int .i64 fe, .int .i64 fst, .int .i64 fq, .string fb] 86))
  have P1 := P.far (far_below (E := fun _ => False) (unhide HB)) (fun _ _ h => h)
  have q0 := blk_cell (i := 0) P1.blk
  have HT := hide (C.tick P1.prog P1.good hM)
  clear P H hA hPU P1
  simp at q0
  unfold ptrTo opVal at *
  go_enter Tryz.func80, Tryz.ntmps80
  go_upto_region 6 with (go_at_call 24; refine (unhide HT).mono ?_; rintro r1 x1 ⟨lw, fs, U', rfl, hO, hAt, hF, hNew⟩; have T1 := hide (AM.start (f := w.heap.size) (i := i) (s := s) (unhide HP) (unhide HB) (Nat.le_refl _) (by simp) (by simp) (by simp) hAt hF hNew); have O1 := hide hO; clear hO hAt hF hNew)
  have q1 := blk_cell (i := 1) (unhide T1).blk
  simp [ptrTo] at q1
  have hR := hide (refTick_any (unhide T1).ref (unhide hd) (unhide HP).good hM2)
  clear HT q0
  go_upto_region 7 with (go_at_call 119; refine (unhide hR).mono ?_; rintro r2 x2 ⟨kw, n, rfl, hrow, hst⟩; have R2 := hide hrow; have S2 := hide hst; clear hrow hst)
  have KS := hide (tick_same (unhide HH) (unhide HP) (unhide HAA) (unhide HPU) (unhide T1) (unhide O1) (unhide HB).size (unhide S2) (unhide R2) (unhide hd) (agGood_tick (unhide HP).good) (unhide SM) zh)
  clear T1 O1 S2 R2 hR SM HP HH HAA HPU
  unfold ptrTo at KS
  go_wp2_with (go_at_call 120; refine (unhide KS).mono ?_; rintro r3 x3 ⟨rfl, D⟩)
  go_ret
  exact ⟨rfl, D⟩
end Go.Proofs.YtamafdcnbcoegaaGreat
namespace Go.Proofs.YtamafdcnbcoegaaGreat
open Go.RowKit

theorem AgDone.taken {top M N : Nat} {C : AgentC top} {A : Nat → Nat → Prop} {w x y : World} {wb q sv rp : Nat} {as_ ss hv : Value} {hs : List Nat} {a' : Mod.Ag} {r : RRest} {kv hk : Nat → Value} {U : Nat → Prop}
    (H : WorldAt A w wb as_ ss hv hs) (hA : ∀ b o, A b o → b < w.heap.size ∧ ¬ Us wb hv b ∧ ¬ AgPairU q rp kv hk U b) (hPU : ∀ k, AgPairU q rp kv hk U k → ¬ Us wb hv k) (hb : Below w.heap.size w x) (D : AgDone C M x y q sv rp a' r kv hk U) (hN : hs.length ≤ N) : AgTaken C M A w y wb q sv rp as_ ss hv a' r kv hk U N := by
  obtain ⟨kvd, hkd, U', left, P, F, hnew⟩ := D.all
  have hx := hb.size
  have FW := (far_below (E := AgPairU q rp kv hk U) hb).trans F (fun _ _ h => h)
  have hul := H.us_lt
  refine ⟨hv, hs, kvd, hkd, U', left, hN, (H.far FW (fun k hu hp => hPU k hp hu) (fun b o h => ⟨(hA b o h).1, (hA b o h).2.2⟩)).mono ?_, P, fun k h => (hnew k h).imp id (by omega), ?_, FW.mono (fun _ _ h => .inl h), .inr (.inl rfl)⟩
  · intro b o h
    have h1 := hA b o h
    refine ⟨by have := FW.size; omega, h1.2.1, fun hp => ?_, .inl h⟩
    rcases hnew b hp with h' | h'
    · exact h1.2.2 h'
    · omega
  · intro k hp hu
    rcases hnew k hp with h' | h'
    · exact hPU k h' hu
    · have := hul k hu; omega

set_option maxRecDepth 100000 in
set_option maxHeartbeats 2000000 in
theorem onAgent_submit {top M : Nat} (C : AgentC top) (A : Nat → Nat → Prop) (w : World) (wb : Nat) (as_ ss hv : Value) (hs : List Nat) (nn i : Int) (s : ByteArray) (kp fk fe fst fq : Int) (fb : ByteArray) (q sv rp : Nat) (a : Mod.Ag) (r : RRest) (kv hk : Nat → Value) (U : Nat → Prop) (left : Int)
    (H : WorldAt A w wb as_ ss hv hs) (P : AgPairAt C M w q sv rp a r kv hk U left) (hM : M < top) (hA : ∀ b o, A b o → b < w.heap.size ∧ ¬ Us wb hv b ∧ ¬ AgPairU q rp kv hk U b) (hPU : ∀ k, AgPairU q rp kv hk U k → ¬ Us wb hv k) :
    Calls Tryz.prog 80 #[ptrTo wb, ptrTo q, opVal 4 nn i s kp fk fe fst fq fb] w fun x w' => x = .returned (.bool true) ∧ AgTaken C (M + 1) A w w' wb q sv rp as_ ss hv (agSubmits a i s) r kv hk U hs.length := by
  have HB := hide ((Below.refl w.heap.size w).alloc (Nat.le_refl _) (.cells #[.int .i64 4, .int .i64 nn, .int .i64 i, .string s, .int .u64 kp, .int .i64 fk, .int .i64 fe, .int .i64 fst, .int .i64 fq, .string fb] 86))
  have KS := hide (submitted_any C _ 4 nn i s kp fk fe fst fq fb q sv rp a r kv hk U left (P.far (far_below (E := fun _ => False) (unhide HB)) (fun _ _ h => h)) hM)
  have HH := hide H
  have HAA := hide hA
  have HPU := hide hPU
  clear H P hA hPU
  unfold ptrTo opVal at *
  go_enter Tryz.func80, Tryz.ntmps80
  go_wp2_with (go_at_call 118; refine (unhide KS).mono ?_; rintro r3 x3 ⟨rfl, D⟩)
  go_ret
  exact ⟨rfl, AgDone.taken (unhide HH) (unhide HAA) (unhide HPU) (unhide HB) D (Nat.le_refl _)⟩
end Go.Proofs.YtamafdcnbcoegaaGreat
namespace Go.Proofs.YtamafdcnbcoegaaGreat
open Go.RowKit

/-- Behind Deliver, ahead of keep. -/
structure ATL {top : Nat} (C : AgentC top) (w x : World) (q sv rp : Nat) (a a' : Mod.Ag) (r : RRest) (lv hk : Nat → Value) (U U' : Nat → Prop) (left : Int) (s : ByteArray) (g n8 B : Nat) (fv : Value) (fs : List Value) (Fl : List ByteArray) : Prop where
  far : Far (AgPairU q rp lv hk U) w x
  lg : w.heap.size < g
  gB : g < B
  bx : B ≤ x.heap.size
  s3 : x.cell? ⟨w.heap.size, 3, none⟩ = some (.string s)
  own : x.ownsRow 0 5 1 (.slice (some ⟨g, 0, none⟩) n8 n8) n8 (bv (lentL s))
  blk : x.heap[q]? = some (.cells #[ptrTo sv, ptrTo rp, .bool false, .int .i64 left] 128 (0, 0))
  prog : C.At x sv a' U'
  ref : RefAt x rp a r lv hk
  out : FramesOut B x fv fs Fl U'
  new : ∀ k, U' k → U k ∨ B ≤ k
theorem ATL.below {top : Nat} {C : AgentC top} {w x y : World} {q sv rp : Nat} {a a' : Mod.Ag} {r : RRest} {lv hk : Nat → Value} {U U' : Nat → Prop} {left : Int} {s : ByteArray} {g n8 B : Nat} {fv : Value} {fs : List Value} {Fl : List ByteArray}
    (h : ATL C w x q sv rp a a' r lv hk U U' left s g n8 B fv fs Fl) (hb : Below x.heap.size x y) : ATL C w y q sv rp a a' r lv hk U U' left s g n8 B fv fs Fl := by
  have hl := h.lg
  have hg := h.gB
  have hx := h.bx
  have F : Far (fun _ => False) x y := far_below hb
  exact ⟨h.far.trans F (fun _ _ h => h.elim), hl, hg, Nat.le_trans hx hb.size, (hb.cell (p := ⟨w.heap.size, 3, none⟩) (by show w.heap.size < _; omega)).trans h.s3, F.own h.own (fun _ _ h => h), F.blk h.blk (fun h => h), C.far h.prog F (fun _ _ h => h), h.ref.far F (fun _ _ h => h),
    h.out.keep (fun k hk => hb.block k (h.out.lt k hk).2), h.new⟩
/-- Deliver's end, out of what stood ahead of it. -/
theorem ATL.start {top N : Nat} {C : AgentC top} {w x y : World} {q sv rp : Nat} {a a' : Mod.Ag} {r : RRest} {lv hk : Nat → Value} {U U' : Nat → Prop} {left : Int} {s : ByteArray} {g n8 : Nat} {fv : Value} {fs : List Value} {Fl : List ByteArray}
    (P : AgPairAt C N w q sv rp a r lv hk U left) (L : Lay w x s g n8) (hO : FramesOut x.heap.size y fv fs Fl U') (hA : C.At y sv a' U') (hF : Far U x y) (hN : ∀ k, U' k → U k ∨ x.heap.size ≤ k) : ATL C w y q sv rp a a' r lv hk U U' left s g n8 x.heap.size fv fs Fl := by
  have hl := L.lt
  have hg := L.glt
  have hUl := C.lt P.prog
  have F1 : Far (fun _ => False) w x := far_below L.bel
  have P1 := P.far F1 (fun _ _ h => h)
  have hU : ∀ k, w.heap.size ≤ k → ¬ U k := fun k h hu => by have := hUl k hu; omega
  exact ⟨(F1.mono (fun _ _ h => h.elim)).trans hF (fun k _ h => .inr (.inr h)), hl, hg, hF.size, (World.cell?_of_block (hF.rest w.heap.size (by omega) (hU _ (Nat.le_refl _)))).trans L.s3,
    hF.own L.own (fun k hk => by cases hk; exact hU g (by omega)), hF.blk P1.blk P1.qU, hA, P1.ref.far hF (fun k hk hu => P1.UR k hu hk), hO, hN⟩

/-- Behind keep. -/
structure ATM {top : Nat} (C : AgentC top) (A A2 : Nat → Nat → Prop) (w x : World) (wb q sv rp : Nat) (as_ ss hv hv2 : Value) (hs2 : List Nat) (ar ap : Mod.Ag) (r : RRest) (lv lvc hk hkc : Nat → Value) (U U' : Nat → Prop) (left : Int) (B f : Nat) (k1 e1 s1 q1 : Int) (b1 : ByteArray) (fv : Value) (fs : List Value) (Fl : List ByteArray) : Prop where
  far : Far (fun k => AgPairU q rp lv hk U k ∨ Us wb hv k) w x
  wB : w.heap.size ≤ B
  wat : WorldAt A2 x wb as_ ss hv2 hs2
  a2 : ∀ b o, A2 b o → b < x.heap.size ∧ ¬ Us wb hv2 b ∧ ¬ AgPairU q rp lvc hkc U' b ∧ ¬ Outs fv fs b
  sub : ∀ b o, A2 b o → A b o ∨ w.heap.size ≤ b
  loc : Loc w hv hv2
  us : ∀ k, (AgPairU q rp lvc hkc U' k ∨ Outs fv fs k) → ¬ Us wb hv2 k
  blk : x.heap[q]? = some (.cells #[ptrTo sv, ptrTo rp, .bool false, .int .i64 left] 128 (0, 0))
  prog : C.At x sv ap U'
  ref : RefAt x rp ar r lvc hkc
  out : FramesOut B x fv fs Fl U'
  newU : ∀ k, U' k → U k ∨ w.heap.size ≤ k
  newR : ∀ k, RefU rp lvc hkc k → RefU rp lv hk k ∨ w.heap.size ≤ k
  qU : ¬ U' q
  qR : ¬ RefU rp lvc hkc q
  UR : ∀ k, U' k → ¬ RefU rp lvc hkc k
  outs : ∀ k, Outs fv fs k → ¬ AgPairU q rp lvc hkc U' k
  box : FrBox x f k1 e1 s1 q1 b1
  fl : f < x.heap.size
  fw : ¬ AgPairU q rp lvc hkc U' f

theorem ATL.bat {top : Nat} {C : AgentC top} {w x : World} {q sv rp : Nat} {a a' : Mod.Ag} {r : RRest} {lv hk : Nat → Value} {U U' : Nat → Prop} {left : Int} {s : ByteArray} {g n8 B : Nat} {fv : Value} {fs : List Value} {Fl : List ByteArray}
    (h : ATL C w x q sv rp a a' r lv hk U U' left s g n8 B fv fs Fl) (hn : s.size + 8 = n8) : BAt (fun _ _ => True) x (.slice (some ⟨g, 0, none⟩) n8 n8) (lentL s) :=
  bat_of_row (by have := h.own; rw [bv_length, lentL_length, hn]; exact this) (fun _ _ _ _ => trivial)
/-- What keep asks. -/
theorem ATL.world {top : Nat} {C : AgentC top} {A : Nat → Nat → Prop} {w x : World} {wb q sv rp : Nat} {as_ ss hv : Value} {hs : List Nat} {a a' : Mod.Ag} {r : RRest} {lv hk : Nat → Value} {U U' : Nat → Prop} {left : Int} {s : ByteArray} {g n8 B : Nat} {fv : Value} {fs : List Value} {Fl : List ByteArray}
    (h : ATL C w x q sv rp a a' r lv hk U U' left s g n8 B fv fs Fl) (H : WorldAt A w wb as_ ss hv hs) (hA : ∀ b o, A b o → b < w.heap.size ∧ ¬ Us wb hv b ∧ ¬ AgPairU q rp lv hk U b) (hPU : ∀ k, AgPairU q rp lv hk U k → ¬ Us wb hv k) (O : Obj) : WorldAt A (x.alloc O) wb as_ ss hv hs :=
  H.far (h.far.trans (far_below (E := fun _ => False) ((Below.refl _ _).alloc (Nat.le_refl _) O)) (fun _ _ h => h.elim)) (fun k hu hp => hPU k hp hu) (fun b o hb => ⟨(hA b o hb).1, (hA b o hb).2.2⟩)
theorem ATL.keepA {top : Nat} {C : AgentC top} {A : Nat → Nat → Prop} {w x : World} {wb q sv rp : Nat} {hv : Value} {a a' : Mod.Ag} {r : RRest} {lv hk : Nat → Value} {U U' : Nat → Prop} {left : Int} {s : ByteArray} {g n8 B : Nat} {fv : Value} {fs : List Value} {Fl : List ByteArray}
    (h : ATL C w x q sv rp a a' r lv hk U U' left s g n8 B fv fs Fl) (hA : ∀ b o, A b o → b < w.heap.size ∧ ¬ Us wb hv b ∧ ¬ AgPairU q rp lv hk U b) (O : Obj) : ∀ b o, A b o → b < (x.alloc O).heap.size ∧ ¬ KeepG x.heap.size wb hv (.slice none 0 0) (.slice (some ⟨g, 0, none⟩) n8 n8) (.slice none 0 0) b := by
  intro b o hb
  have h1 := hA b o hb
  have h2 := h.lg
  have h3 := h.gB
  have h4 := h.bx
  refine ⟨by simp; omega, ?_⟩
  rintro (e | (e | e | e) | e)
  · omega
  · cases e
  · have := own_g e; have := h1.1; omega
  · cases e
  · exact h1.2.1 e
theorem ATM.start {top N : Nat} {C : AgentC top} {A : Nat → Nat → Prop} {w x y : World} {wb q sv rp : Nat} {as_ ss hv hv2 : Value} {hs hs2 : List Nat} {a a' : Mod.Ag} {r : RRest} {lv hk : Nat → Value} {U U' : Nat → Prop} {left : Int} {s : ByteArray} {g n8 B f : Nat} {fv : Value} {fs : List Value} {Fl : List ByteArray} {k1 e1 s1 q1 : Int} {b1 : ByteArray} {O : Obj}
    (P : AgPairAt C N w q sv rp a r lv hk U left) (T : ATL C w x q sv rp a a' r lv hk U U' left s g n8 B fv fs Fl) (H : WorldAt A w wb as_ ss hv hs) (hA : ∀ b o, A b o → b < w.heap.size ∧ ¬ Us wb hv b ∧ ¬ AgPairU q rp lv hk U b) (hPU : ∀ k, AgPairU q rp lv hk U k → ¬ Us wb hv k)
    (hbox : FrBox x f k1 e1 s1 q1 b1) (hfl : f < x.heap.size) (hfB : w.heap.size ≤ f) (hfg : f ≠ g) (hfU : ¬ U' f)
    (hwat : WorldAt (fun b o => (b < y.heap.size ∧ ¬ Us wb hv2 b) ∧ (A b o ∨ b = x.heap.size ∨ ((Value.slice none 0 0).ownBlock = some b ∨ (Value.slice (some ⟨g, 0, none⟩) n8 n8).ownBlock = some b ∨ (Value.slice none 0 0).ownBlock = some b) ∨ (x.alloc O).heap.size ≤ b)) y wb as_ ss hv2 hs2)
    (hF : Far (KeepG x.heap.size wb hv (.slice none 0 0) (.slice (some ⟨g, 0, none⟩) n8 n8) (.slice none 0 0)) (x.alloc O) y) (hL : Loc (x.alloc O) hv hv2) :
    ATM C A (fun b o => (b < y.heap.size ∧ ¬ Us wb hv2 b) ∧ (A b o ∨ b = x.heap.size ∨ ((Value.slice none 0 0).ownBlock = some b ∨ (Value.slice (some ⟨g, 0, none⟩) n8 n8).ownBlock = some b ∨ (Value.slice none 0 0).ownBlock = some b) ∨ (x.alloc O).heap.size ≤ b)) w y wb q sv rp as_ ss hv hv2 hs2 a a' r lv lv hk hk U U' left B f k1 e1 s1 q1 b1 fv fs Fl := by
  have h2 := T.lg
  have h3 := T.gB
  have h4 := T.bx
  have hs1 : (x.alloc O).heap.size = x.heap.size + 1 := by simp
  have hUs := H.us_lt
  have hPl := P.lt
  have hU'l := C.lt T.prog
  have hOl : ∀ k, Outs fv fs k → B ≤ k ∧ k < x.heap.size := T.out.lt
  have hU'c : ∀ k, U' k → U k ∨ B ≤ k := T.new
  have F1 : Far (fun _ => False) x (x.alloc O) := far_below ((Below.refl _ _).alloc (Nat.le_refl _) O)
  have hG : ∀ k, KeepG x.heap.size wb hv (.slice none 0 0) (.slice (some ⟨g, 0, none⟩) n8 n8) (.slice none 0 0) k → k = x.heap.size ∨ k = g ∨ Us wb hv k := by
    rintro k (e | (e | e | e) | e)
    · exact .inl e
    · cases e
    · exact .inr (.inl (own_g e).symm)
    · cases e
    · exact .inr (.inr e)
  have F2 : Far (fun k => k = x.heap.size ∨ k = g ∨ Us wb hv k) x y := (F1.mono (fun _ _ h => h.elim)).trans (hF.mono (fun k _ h => hG k h)) (fun _ _ h => h)
  have hpair : ∀ k, AgPairU q rp lv hk U' k → AgPairU q rp lv hk U k ∨ (U' k ∧ B ≤ k) := by
    rintro k (e | e | e)
    · exact .inl (.inl e)
    · exact .inl (.inr (.inl e))
    · exact (hU'c k e).elim (fun h => .inl (.inr (.inr h))) (fun h => .inr ⟨e, h⟩)
  have hpx : ∀ k, AgPairU q rp lv hk U' k → k < x.heap.size ∧ k ≠ g ∧ ¬ Us wb hv k := by
    intro k hk'
    rcases hpair k hk' with h | ⟨h, hB⟩
    · have := hPl k h
      exact ⟨by omega, by omega, hPU k h⟩
    · have := hU'l k h
      exact ⟨this, by omega, fun hu => by have := hUs k hu; omega⟩
  have hqk : AgPairU q rp lv hk U' q := .inl rfl
  have hOx : ∀ k, Outs fv fs k → k < x.heap.size ∧ k ≠ g ∧ ¬ Us wb hv k := fun k h => by
    have := hOl k h
    exact ⟨this.2, by omega, fun hu => by have := hUs k hu; omega⟩
  have hOP : ∀ k, Outs fv fs k → ¬ AgPairU q rp lv hk U' k := fun k h hp => by
    have h5 := hOl k h
    rcases hp with e | e | e
    · have := hPl k (.inl e); omega
    · have := hPl k (.inr (.inl e)); omega
    · exact T.out.clear k h e
  have hno : ∀ k, k < x.heap.size ∧ k ≠ g ∧ ¬ Us wb hv k → ¬ (k = x.heap.size ∨ k = g ∨ Us wb hv k) := by
    rintro k ⟨h1, h5, h6⟩ (e | e | e)
    · omega
    · exact h5 e
    · exact h6 e
  have hus2 : ∀ k, k < x.heap.size ∧ k ≠ g ∧ ¬ Us wb hv k → ¬ Us wb hv2 k := by
    rintro k ⟨h1, h5, h6⟩ (e | e)
    · exact h6 (.inl e)
    · rcases hL with h | h | ⟨g', h, hg'⟩
      · rw [h] at e; cases e
      · exact h6 (.inr (h ▸ e))
      · rw [h] at e; cases e; omega
  refine ⟨?_, by omega, hwat, ?_, ?_, ?_, ?_, F2.blk T.blk (hno q (hpx q hqk)), C.far T.prog F2 (fun k h => hno k (hpx k (.inr (.inr h)))), T.ref.far F2 (fun k h => hno k (hpx k (.inr (.inl h)))), T.out.keep (fun k h => F2.rest k (hOx k h).1 (hno k (hOx k h))),
    fun k h => (hU'c k h).imp id (by omega), fun k h => .inl h, ?_, P.qR, ?_, hOP, ?_, Nat.lt_of_lt_of_le hfl F2.size, ?_⟩
  · refine (T.far.mono (E' := fun k => AgPairU q rp lv hk U k ∨ Us wb hv k) (fun _ _ h => .inl h)).trans F2 ?_
    rintro k hk' (e | e | e)
    · omega
    · omega
    · exact .inr e
  · rintro b o ⟨⟨hb1, hb2⟩, hb3⟩
    refine ⟨hb1, hb2, fun hp => ?_, fun ho => ?_⟩
    · have hx := hpx b hp
      rcases hb3 with h | h | (h | h | h) | h
      · rcases hpair b hp with h7 | ⟨h7, hB⟩
        · exact (hA b o h).2.2 h7
        · have := (hA b o h).1; omega
      · omega
      · cases h
      · exact hx.2.1 (own_g h).symm
      · cases h
      · omega
    · have hx := hOx b ho
      rcases hb3 with h | h | (h | h | h) | h
      · have := (hA b o h).1; have := hOl b ho; omega
      · omega
      · cases h
      · exact hx.2.1 (own_g h).symm
      · cases h
      · omega
  · rintro b o ⟨_, hb3⟩
    rcases hb3 with h | h | (h | h | h) | h
    · exact .inl h
    · exact .inr (by omega)
    · cases h
    · have := own_g h; exact .inr (by omega)
    · cases h
    · exact .inr (by omega)
  · exact hL.mono (by omega)
  · rintro k (h | h)
    · exact hus2 k (hpx k h)
    · exact hus2 k (hOx k h)
  · intro h
    rcases hU'c q h with h | h
    · exact P.qU h
    · have := hPl q (.inl rfl); omega
  · intro k h hr
    rcases hU'c k h with h | h
    · exact P.UR k h hr
    · have := hPl k (.inr (.inl hr)); omega
  · refine hbox.kept (F2.rest f hfl (hno f ⟨hfl, hfg, fun hu => by have := hUs f hu; omega⟩))
  · rintro (e | e | e)
    · have := hPl f (.inl e); omega
    · have := hPl f (.inr (.inl e)); omega
    · exact hfU e
section
variable {top N : Nat} {C : AgentC top} {A A2 : Nat → Nat → Prop} {w x y : World} {wb q sv rp : Nat} {as_ ss hv hv2 : Value} {hs2 : List Nat} {ar ap : Mod.Ag} {r : RRest} {lv lvc hk hkc : Nat → Value} {U U' : Nat → Prop} {left : Int} {B f : Nat} {k1 e1 s1 q1 : Int} {b1 : ByteArray} {fv : Value} {fs : List Value} {Fl : List ByteArray}
theorem ATM.prlt (T : ATM C A A2 w x wb q sv rp as_ ss hv hv2 hs2 ar ap r lv lvc hk hkc U U' left B f k1 e1 s1 q1 b1 fv fs Fl) : ∀ k, AgPairU q rp lvc hkc U' k → k < x.heap.size := by
  rintro k (rfl | h | h)
  · exact lt_of_block T.blk
  · exact T.ref.lt k h
  · exact C.lt T.prog k h
/-- What writes nothing of the pair, the holds, the frames and the box leaves all as it was. -/
theorem ATM.any {E : Nat → Prop} (T : ATM C A A2 w x wb q sv rp as_ ss hv hv2 hs2 ar ap r lv lvc hk hkc U U' left B f k1 e1 s1 q1 b1 fv fs Fl) (F : Far E x y) (hE : ∀ k, E k → w.heap.size ≤ k ∧ ¬ AgPairU q rp lvc hkc U' k ∧ ¬ Us wb hv2 k ∧ ¬ Outs fv fs k ∧ (∀ o, ¬ A2 k o) ∧ k ≠ f) :
    ATM C A A2 w y wb q sv rp as_ ss hv hv2 hs2 ar ap r lv lvc hk hkc U U' left B f k1 e1 s1 q1 b1 fv fs Fl :=
  ⟨T.far.trans F (fun k hk he => by have := (hE k he).1; omega), T.wB, T.wat.far F (fun k hu he => (hE k he).2.2.1 hu) (fun b o h => ⟨(T.a2 b o h).1, fun he => (hE b he).2.2.2.2.1 o h⟩), fun b o h => ⟨Nat.lt_of_lt_of_le (T.a2 b o h).1 F.size, (T.a2 b o h).2⟩, T.sub, T.loc, T.us,
    F.blk T.blk (fun he => (hE q he).2.1 (.inl rfl)), C.far T.prog F (fun k h he => (hE k he).2.1 (.inr (.inr h))), T.ref.far F (fun k h he => (hE k he).2.1 (.inr (.inl h))), T.out.keep (fun k h => F.rest k (T.out.lt k h).2 (fun he => (hE k he).2.2.2.1 h)), T.newU, T.newR, T.qU, T.qR, T.UR, T.outs,
    T.box.kept (F.rest f T.fl (fun he => (hE f he).2.2.2.2.2 rfl)), Nat.lt_of_lt_of_le T.fl F.size, T.fw⟩
theorem ATM.below (T : ATM C A A2 w x wb q sv rp as_ ss hv hv2 hs2 ar ap r lv lvc hk hkc U U' left B f k1 e1 s1 q1 b1 fv fs Fl) (hb : Below x.heap.size x y) : ATM C A A2 w y wb q sv rp as_ ss hv hv2 hs2 ar ap r lv lvc hk hkc U U' left B f k1 e1 s1 q1 b1 fv fs Fl :=
  T.any (E := fun _ => False) (far_below hb) (fun _ h => h.elim)
/-- A store into the pair's own block. -/
theorem ATM.wrote (T : ATM C A A2 w x wb q sv rp as_ ss hv hv2 hs2 ar ap r lv lvc hk hkc U U' left B f k1 e1 s1 q1 b1 fv fs Fl) (hfq : f ≠ q) (left' : Int) :
    ATM C A A2 w (x.setCell ⟨q, 3, none⟩ (.int .i64 left')) wb q sv rp as_ ss hv hv2 hs2 ar ap r lv lvc hk hkc U U' left' B f k1 e1 s1 q1 b1 fv fs Fl := by
  have F := far_set x q 3 (.int .i64 left')
  have hq : AgPairU q rp lvc hkc U' q := .inl rfl
  have hqw : AgPairU q rp lv hk U q := .inl rfl
  refine ⟨T.far.trans F (fun k _ e => .inl (e ▸ hqw)), T.wB, T.wat.far F (fun k hu e => T.us q (.inl hq) (e ▸ hu)) (fun b o h => ⟨(T.a2 b o h).1, fun e => (T.a2 b o h).2.2.1 (e ▸ hq)⟩), fun b o h => ⟨Nat.lt_of_lt_of_le (T.a2 b o h).1 F.size, (T.a2 b o h).2⟩, T.sub, T.loc, T.us,
    ?_, C.far T.prog F (fun k h e => T.qU (e ▸ h)), T.ref.far F (fun k h e => T.qR (e ▸ h)), T.out.keep (fun k h => F.rest k (T.out.lt k h).2 (fun e => T.outs k h (e ▸ hq))), T.newU, T.newR, T.qU, T.qR, T.UR, T.outs, T.box.kept (F.rest f T.fl hfq), Nat.lt_of_lt_of_le T.fl F.size, T.fw⟩
  have := blk_set (j := 3) (v := .int .i64 left') T.blk
  simpa using this
/-- What the document's Deliver leaves. -/
theorem ATM.step {ar' : Mod.Ag} (T : ATM C A A2 w x wb q sv rp as_ ss hv hv2 hs2 ar ap r lv lvc hk hkc U U' left B f k1 e1 s1 q1 b1 fv fs Fl) (hS : RefStep x y rp ar' r lvc hkc) :
    ∃ lvd hkd, ATM C A A2 w y wb q sv rp as_ ss hv hv2 hs2 ar' ap r lv lvd hk hkd U U' left B f k1 e1 s1 q1 b1 fv fs Fl := by
  obtain ⟨lvd, hkd, R', F, hN⟩ := hS
  have hUl := C.lt T.prog
  have hpair : ∀ k, AgPairU q rp lvd hkd U' k → AgPairU q rp lvc hkc U' k ∨ x.heap.size ≤ k := by
    rintro k (h | h | h)
    · exact .inl (.inl h)
    · exact (hN k h).imp (fun h => .inr (.inl h)) id
    · exact .inl (.inr (.inr h))
  have hql := lt_of_block T.blk
  refine ⟨lvd, hkd, T.far.trans F (fun k hk h => .inl ((T.newR k h).elim (fun h => .inr (.inl h)) (fun h => by omega))), T.wB, T.wat.far F (fun k hu h => T.us k (.inl (.inr (.inl h))) hu) (fun b o h => ⟨(T.a2 b o h).1, fun e => (T.a2 b o h).2.2.1 (.inr (.inl e))⟩), fun b o h => ⟨Nat.lt_of_lt_of_le (T.a2 b o h).1 F.size, (T.a2 b o h).2.1, fun hp => (hpair b hp).elim (T.a2 b o h).2.2.1 (fun hx => by have := (T.a2 b o h).1; omega), (T.a2 b o h).2.2.2⟩, T.sub, T.loc, ?_,
    F.blk T.blk T.qR, C.far T.prog F T.UR, R', T.out.keep (fun k h => F.rest k (T.out.lt k h).2 (fun e => T.outs k h (.inr (.inl e)))), T.newU, fun k h => (hN k h).elim (T.newR k) (fun hx => .inr (by have := T.far.size; omega)), T.qU, fun h => (hN q h).elim T.qR (fun hx => by omega), fun k h hr => (hN k hr).elim (T.UR k h) (fun hx => by have := hUl k h; omega), fun k h hp => (hpair k hp).elim (T.outs k h) (fun hx => by have := (T.out.lt k h).2; omega),
    T.box.kept (F.rest f T.fl (fun e => T.fw (.inr (.inl e)))), Nat.lt_of_lt_of_le T.fl F.size, fun hp => (hpair f hp).elim T.fw (fun hx => by have := T.fl; omega)⟩
  rintro k (h | h)
  · rcases hpair k h with h | h
    · exact T.us k (.inl h)
    · intro hu
      have := T.wat.us_lt k hu
      omega
  · exact T.us k (.inr h)
theorem ATM.done {hv3 : Value} {hs3 : List Nat} {Nh : Nat} (T : ATM C A A2 w x wb q sv rp as_ ss hv hv2 hs2 ap ap r lv lvc hk hkc U U' left B f k1 e1 s1 q1 b1 fv fs Fl) (hd : r.dead = false) (G : AgGood N ap)
    (W : WorldAt (fun b o => (b < y.heap.size ∧ ¬ Us wb hv3 b) ∧ (A2 b o ∨ (fv.ownBlock = some b ∨ Done fs fs.length b) ∨ x.heap.size ≤ b)) y wb as_ ss hv3 hs3) (F : Far (fun k => (fv.ownBlock = some k ∨ Done fs fs.length k) ∨ Us wb hv2 k) x y) (L : Loc x hv2 hv3) (hN : hs3.length ≤ Nh) (hw : w.heap.size ≤ x.heap.size)
    (hus : ∀ k, Us wb hv2 k → k < w.heap.size → Us wb hv k) : AgTaken C N A w y wb q sv rp as_ ss hv ap r lv hk U Nh := by
  have hpl := T.prlt
  have hpE : ∀ k, AgPairU q rp lvc hkc U' k → ¬ ((fv.ownBlock = some k ∨ Done fs fs.length k) ∨ Us wb hv2 k) := by
    rintro k h (e | e)
    · exact T.outs k e h
    · exact T.us k (.inl h) e
  have hus3 : ∀ k, AgPairU q rp lvc hkc U' k → ¬ Us wb hv3 k := by
    rintro k h (e | e)
    · exact T.us k (.inl h) (.inl e)
    · rcases L with h' | h' | ⟨g', h', hg'⟩
      · rw [h'] at e; cases e
      · exact T.us k (.inl h) (.inr (h' ▸ e))
      · rw [h'] at e; injection e with e; have := hpl k h; omega
  have hout := T.out.lt
  refine ⟨hv3, hs3, lvc, hkc, U', left, hN, W.mono ?_, ?_, ?_, hus3, ?_, loc_trans T.loc L hw⟩
  · rintro b o ⟨⟨h1, h2⟩, h3⟩
    refine ⟨h1, h2, fun hp => ?_, ?_⟩
    · rcases h3 with h | h | h
      · exact (T.a2 b o h).2.2.1 hp
      · exact T.outs b h hp
      · have := hpl b hp; omega
    · rcases h3 with h | h | h
      · exact T.sub b o h
      · exact .inr (by have := (hout b h).1; have := T.wB; omega)
      · exact .inr (by omega)
  · exact ⟨F.blk T.blk (hpE q (.inl rfl)), C.far T.prog F (fun k h => hpE k (.inr (.inr h))), T.ref.far F (fun k h => hpE k (.inr (.inl h))), hd, G, T.qU, T.qR, T.UR⟩
  · rintro k (h | h | h)
    · exact .inl (.inl h)
    · exact (T.newR k h).imp (fun h => .inr (.inl h)) id
    · exact (T.newU k h).imp (fun h => .inr (.inr h)) id
  · refine T.far.trans F (fun k hk h => ?_)
    rcases h with h | h
    · have := (hout k h).1; have := T.wB; omega
    · exact .inr (hus k h hk)
end
end Go.Proofs.YtamafdcnbcoegaaGreat
namespace Go.Proofs.YtamafdcnbcoegaaGreat
open Go.RowKit

theorem eq_three (a b c d e f : Int) (w : World) : (Op.equalIn 10000 98 (.agg #[.int .i64 a, .int .i64 b, .int .i64 c]) (.agg #[.int .i64 d, .int .i64 e, .int .i64 f])).run Tryz.prog w = .ok (a == d && (b == e && c == f)) w := by
  obtain ⟨i, hi⟩ : ∃ i, Tryz.prog.info? 3 = some i := by
    have := size1
    cases h : Tryz.prog.info? 3 with
    | none => rw [h] at this; cases this
    | some i => exact ⟨i, rfl⟩
  have hz : Tryz.prog.cellsOf 3 = 1 := by kernel_rfl
  have e := eq_ints [a, b, c] [d, e, f] w (List.range 3) (fun i hi => by have := List.mem_range.1 hi; simp; omega)
  rw [← hz] at e
  refine (run_equalIn_array (P := Tryz.prog) w 9999 #[.int .i64 a, .int .i64 b, .int .i64 c] _ Tryz.underlying98 hi).trans (e.trans ?_)
  simp [List.range_succ]
theorem size_three : (Tryz.prog.info? 98).map (·.size) = some 3 := by kernel_rfl
/-- Three noughts in a block of their own. -/
def Three (B : Nat) (v : Value) (z : World) : Prop := ∃ g, v = .pointer (some ⟨g, 0, none⟩) ∧ B ≤ g ∧ z.heap[g]? = some (.cells #[.int .i64 0, .int .i64 0, .int .i64 0] 98 (0, 0))
theorem stable_three (B : Nat) : Stable (Three B) := fun _ _ _ h hb => by
  obtain ⟨g, e, h1, h2⟩ := h
  exact ⟨g, e, h1, (hb.block g (lt_of_block h2)).trans h2⟩
set_option maxRecDepth 100000 in
set_option maxHeartbeats 40000000 in
theorem got_any {top M : Nat} (C : AgentC top) (A : Nat → Nat → Prop) (w : World) (wb : Nat) (as_ ss hv : Value) (hs : List Nat) (kd nn i : Int) (s : ByteArray) (kp fk fe fst fq : Int) (fb : ByteArray) (q sv rp : Nat) (a : Mod.Ag) (r : RRest) (lv hk : Nat → Value) (U : Nat → Prop) (left : Int)
    (H : WorldAt A w wb as_ ss hv hs) (P : AgPairAt C M w q sv rp a r lv hk U left) (hM : M < top) (hM2 : M ≤ 2147483647) (hA : ∀ b o, A b o → b < w.heap.size ∧ ¬ Us wb hv b ∧ ¬ AgPairU q rp lv hk U b) (hPU : ∀ k, AgPairU q rp lv hk U k → ¬ Us wb hv k) (zs : s.size ≤ 140737488353980) (zh : hs.length + 12 ≤ 17592186044416) :
    Calls Tryz.prog 121 #[ptrTo wb, ptrTo q, opVal kd nn i s kp fk fe fst fq fb] w fun x w' => x = .returned (.bool true) ∧ AgTaken C M A w w' wb q sv rp as_ ss hv (agSays a s.data.toList).2 r lv hk U (hs.length + 12) := by
  obtain ⟨n8, hn⟩ : ∃ n8 : Nat, s.size + 8 = n8 := ⟨_, rfl⟩
  have HL := fun w O e h => hide (lent_lay s w O e n8 hn zs h)
  have HP := hide P
  have HH := hide H
  have HN := hide hn
  have hn0 : ¬ n8 = 0 := by omega
  have hle : s.size ≤ n8 := by omega
  have hlei : (s.size : Int) ≤ n8 := by omega
  have q0 : ∀ x : World, Below w.heap.size w x → x.cell? ⟨q, 0, none⟩ = some (ptrTo sv) := fun x hb => by
    rw [hb.cell (p := ⟨q, 0, none⟩) (lt_of_block P.blk)]
    exact blk_cell (i := 0) P.blk
  have HD := fun x (hx : Below w.heap.size w x) (bs : Value) (hb : BytesAt x bs s.data.toList) => hide (C.deliver bs s.data.toList (P.far (far_below (E := fun _ => False) hx) (fun _ _ h => h)).prog P.good hM hb)
  have HQ := hide q0
  have HAA := hide hA
  have HPU := hide hPU
  obtain ⟨k1, e1, s1, q1, b1, hrv⟩ := readVal_shape s.data.toList
  have HR := fun w' => hide (refRead_any s w' (by omega))
  rw [hrv] at HR
  have HRV := hide hrv
  clear P H hn q0 hA hPU hrv
  unfold ptrTo at *
  unfold opVal
  go_enter Tryz.func121, Tryz.ntmps121
  go_upto_region 1 with fail
  go_upto_region 2 with (go_at_call 77; refine (unhide (HL _ _ _ (by simp))).mono ?_; rintro r1 w1 ⟨g, rfl, L1⟩; have LL1 := hide L1; clear L1)
  refine wp_region_cut (by kernel_rfl)
    [fun v _ => v = .pointer (some ⟨q, 0, none⟩), fun v _ => v = .pointer (some ⟨q, 0, none⟩), fun v _ => v = .pointer (some ⟨q, 0, none⟩), fun v _ => v = .pointer (some ⟨sv, 0, none⟩), fun v _ => v = .slice (some ⟨g, 0, none⟩) n8 n8, fun v _ => v = .pointer (some ⟨w.heap.size, 3, none⟩), fun v _ => v = .string s, fun v _ => v = .int .i64 s.size, fun v _ => v = .slice (some ⟨g, 0, none⟩) s.size n8, fun _ _ => True, fun _ _ => True]
    [[(1, none)], [(19, some 0)], [(20, some 1)], [(21, some 2)], [(7, none)], [(5, none)], [(24, some 5)], [(25, some 6)], [(23, some 4), (26, some 7)], [(22, some 3), (27, some 8)], [(28, some 9)]] [some 19, some 20, some 21, some 22, some 23, some 24, some 25, some 26, some 27, some 28, some 8] [false, false, false, false, false, false, false, false, true, false, false, false, false, false, false, false, false, false, false, true, true, true, true, true, true, true, true, true, true, false, false, false, false, false, false, false, false, false, false, false, false, false, false, false, false, false, false, false, false, false, false, false, false, false, false, false, false, false, false, false, false, false, false, false, false, false, false, false, false, false, false, false, false, false, false, false, false, false, false, false, false, false, false, false, false, false, false, false, false, false, false, false, false, false, false, false, false, false, false, false, false, false, false, false, false, false, false, false, false, false, false, false, false]
    9 _ rfl (Nat.le_of_ble_eq_true (n := 10) (by kernel_rfl)) (by kernel_rfl) (by kernel_rfl) (by kernel_rfl) (by kernel_rfl) (by kernel_rfl) (by kernel_rfl) ?_ ?_ ?_ ?_
  · repeat' (first | exact stable_eq _ | exact stable_true | exact trivial | apply And.intro)
  · refine ⟨?_, ?_, ?_, ?_, ?_, ?_, ?_, ?_, ?_, trivial⟩
    all_goals
      intro b x hb hf
      have y0 := (unhide HQ) x ((unhide LL1).bel.trans (hb.mono (unhide LL1).bel.size))
      have y1 := (hb.cell (p := ⟨w.heap.size, 3, none⟩) (by have := (unhide LL1).lt; have := (unhide LL1).glt; show w.heap.size < _; omega)).trans (unhide LL1).s3
      clear hb
      simp only [PlanFacts, List.getD_cons_zero, List.getD_cons_succ, Array.getD_eq_getD_getElem?] at hf
      try simp at hf
      try go_simp
      try exact Below.refl _ _
    all_goals first | exact ⟨rfl, Below.refl _ _⟩ | skip
  · intro f x hwd
    rfl
  · intro f x2 hb hwd
    simp only [AllWords, List.take] at hwd
    obtain ⟨_, _, _, hf22, _, _, _, _, hf27, _⟩ := hwd
    simp only [mergeT, hf22, hf27]
    go_simp
    have hL2 := hide ((unhide LL1).below hb)
    have hb2 := hide ((unhide LL1).bel.trans (hb.mono (unhide LL1).bel.size))
    clear hb
    refine (unhide (HD x2 (unhide hb2) _ ((unhide hL2).at (unhide HN) zs))).mono ?_
    rintro r' x3 ⟨U', rfl, hA, hF, hNew⟩
    intro fuel hfu
    obtain ⟨n, rfl⟩ : ∃ n, fuel = n + 1 := ⟨fuel - 1, by omega⟩
    refine wpAny_one (i := 10) (by kernel_rfl) rfl rfl ?_
    go_simp
    refine wpAny_end (by kernel_rfl) ?_
    have hO : FramesOut x2.heap.size x3 (.slice none 0 0) [] [] U' := ⟨rfl, World.ownsRow_nil _ _ _ _, (fun j v hj => by simp at hj), (fun i j u v hi => by simp at hi), fun k hk => by
      rcases hk with h | ⟨j, hj, _⟩
      · cases h
      · simp at hj⟩
    have T3 := hide (ATL.start (unhide HP) (unhide hL2) hO hA hF hNew)
    have hfw := hide hF.size
    clear hO hA hF hNew hL2 LL1 HL HD hb2 HQ
    obtain ⟨er, her⟩ : ∃ er, er = (agSays a s.data.toList).1 := ⟨_, rfl⟩
    rw [← her]
    have HER := hide her
    clear her
    go_upto_region 3 with fail
    refine wp_world (fun x => ATL C w x q sv rp a (agSays a s.data.toList).2 r lv hk U U' left s g n8 x2.heap.size (.slice none 0 0) [] []) (unhide T3) ?_
    clear T3
    intro x4 T4
    have s3 := T4.s3
    have TT4 := hide T4
    clear T4
    go_upto_region 4 with (go_at_call 117; refine (unhide (HR _)).mono ?_; rintro r5 x5 ⟨rfl, hb5⟩; have T5 := hide ((unhide TT4).below hb5); clear hb5)
    have FX : Hid (w.heap.size ≤ x5.heap.size ∧ x5.heap.size ≠ g ∧ ¬ U' x5.heap.size ∧ x5.heap.size ≠ q) :=
      ⟨(unhide T5).far.size, by have := (unhide T5).gB; have := (unhide T5).bx; omega, fun h => by have := C.lt (unhide T5).prog _ h; omega, by have := lt_of_block (unhide T5).blk; omega⟩
    refine wp_world (fun x => ATL C w x q sv rp a (agSays a s.data.toList).2 r lv hk U U' left s g n8 x2.heap.size (.slice none 0 0) [] [] ∧ FrBox x x5.heap.size k1 e1 s1 q1 b1 ∧ x5.heap.size < x.heap.size)
      ⟨(unhide T5).below ((Below.refl _ _).alloc (Nat.le_refl _) _), frBox_new _ _ _ _ _ _ _, by simp⟩ ?_
    clear T5 TT4 s3 HR
    generalize x5.heap.size = f at FX ⊢
    rintro x6 ⟨T6, hbx6, hfl6⟩
    have s3 := T6.s3
    have BT := hide (T6.bat (unhide HN))
    have TT6 := hide T6
    have BX6 := hide hbx6
    have FL6 := hide hfl6
    clear T6 hbx6 hfl6
    go_upto_region 5 with (go_at_call 79; refine (still_any _ _ s x6 (unhide BT) (by omega)).mono ?_; rintro r7 w7 ⟨rfl, nq, rfl⟩)
    refine wp_world (fun x => ATL C w x q sv rp a (agSays a s.data.toList).2 r lv hk U U' left s g n8 x2.heap.size (.slice none 0 0) [] [] ∧ FrBox x f k1 e1 s1 q1 b1 ∧ f < x.heap.size)
      ⟨(unhide TT6).below (below_drewN (Below.refl _ _) _), (unhide BX6).below (C := x6.heap.size) (below_drewN (Below.refl _ _) _) (unhide FL6), unhide FL6⟩ ?_
    clear TT6 BX6 FL6 BT s3
    rintro x7 ⟨T7, hbx7, hfl7⟩
    have TT7 := hide T7
    have BX7 := hide hbx7
    have FL7 := hide hfl7
    have HK := hide (keepAll_any A (x7.alloc (.cells #[.slice none 0 0, .slice (some ⟨g, 0, none⟩) n8 n8, .slice none 0 0, .int .i64 0, .string ⟨#[]⟩, .string ⟨#[]⟩] 110)) wb x7.heap.size as_ ss hv (.slice none 0 0) (.slice (some ⟨g, 0, none⟩) n8 n8) (.slice none 0 0) hs [] [] (lentL s)
      (T7.world (unhide HH) (unhide HAA) (unhide HPU) _) (heap_alloc_new x7 _) (World.ownsRow_nil _ _ _ _) (by rw [lentL_length, unhide HN]; exact T7.own.alloc _) (World.ownsRow_nil _ _ _ _) (T7.keepA (unhide HAA) _) (by omega) (by rw [lentL_length]; omega) (by simp) (by simp))
    unfold ptrTo at HK
    clear T7 hbx7 hfl7
    go_upto_region 6 with (go_at_call 76; refine (unhide HK).mono ?_; rintro r8 x8 ⟨rfl, hv2, hs2, hn2, W8, F8, L8⟩; have M8 := hide (ATM.start (unhide HP) (unhide TT7) (unhide HH) (unhide HAA) (unhide HPU) (unhide BX7) (unhide FL7) (unhide FX).1 (unhide FX).2.1 (unhide FX).2.2.1 W8 F8 L8); have HN2 := hide hn2; clear W8 F8 L8 hn2)
    clear HK TT7 BX7 FL7
    generalize hA2 : (fun b o => (b < x8.heap.size ∧ ¬ Us wb hv2 b) ∧ (A b o ∨ b = x7.heap.size ∨ ((Value.slice none 0 0).ownBlock = some b ∨ (Value.slice (some ⟨g, 0, none⟩) n8 n8).ownBlock = some b ∨ (Value.slice none 0 0).ownBlock = some b) ∨ _)) = A2 at M8
    clear hA2
    have hd := hide (unhide HP).dead
    have c1 := blk_cell (i := 1) (unhide M8).blk
    have d4 := blk_cell (i := 4) (unhide M8).ref.blk
    simp [refCells] at c1 d4
    rw [unhide hd] at d4
    have GG := hide (unhide HP).good
    have hdone : ∀ {y : World} {kvc hkc : Nat → Value} {left' : Int} {ap : Mod.Ag}, AgGood M ap → ATM C A A2 w y wb q sv rp as_ ss hv hv2 hs2 ap ap r lv kvc hk hkc U U' left' x2.heap.size f k1 e1 s1 q1 b1 (.slice none 0 0) [] [] → AgTaken C M A w y wb q sv rp as_ ss hv ap r lv hk U (hs.length + 12) := by
      intro y kvc hkc left' ap G T
      have hul := T.wat.us_lt
      refine ATM.done T (unhide hd) G (T.wat.mono (fun b o h => ⟨⟨(T.a2 b o h).1, (T.a2 b o h).2.1⟩, .inl h⟩)) (Far.refl _ _) (.inr (.inl rfl)) (by have := unhide HN2; omega) T.far.size ?_
      rintro k (e | e) hk'
      · exact .inl e
      · rcases T.loc with h | h | ⟨g', h, hg'⟩
        · rw [h] at e; cases e
        · exact .inr (h ▸ e)
        · rw [h] at e; injection e with e; omega
    have HDONE := @hdone
    clear hdone
    cases hr : Wire.reads s.data.toList
    · have hS : agSays a s.data.toList = (1, a) := by unfold agSays; rw [hr]; rfl
      rw [hS] at M8 HER
      have HS := hide hS
      have e1' := unhide HER
      simp only at e1'
      subst e1'
      clear hS HER
      unfold ptrTo at *
      go_wp2
      go_ret
      rw [unhide HS]
      exact ⟨rfl, HDONE (unhide GG) (by first | exact unhide M8 | exact (unhide M8).below (below_drewN (Below.refl _ _) _))⟩
    · have hv := unhide HRV
      rw [readVal_yes hr] at hv
      unfold frVal at hv
      simp only [Value.agg.injEq, Array.mk.injEq, List.cons.injEq, Value.int.injEq, Value.string.injEq, true_and, and_true] at hv
      obtain ⟨hk1, he1, hs1, hq1, hb1⟩ := hv
      have hp := hr
      unfold Wire.reads at hp
      rw [Bool.and_eq_true] at hp
      have hpr := hp.2
      rw [hk1, he1, hs1, hq1, hb1] at hpr
      clear hp
      have hS : agSays a s.data.toList = (0, a.deliver k1 e1 s1 q1 b1) := by
        unfold agSays
        rw [hr, hk1, he1, hs1, hq1, hb1]
        rfl
      rw [hS] at M8 HER
      have HS := hide hS
      have e1' := unhide HER
      simp only at e1'
      subst e1'
      have GD := hide (agGood_deliver (unhide GG) k1 e1 s1 q1 b1)
      have hSAY := fun x (hb : Below x8.heap.size x8 x) => hide (refSays_any ((unhide M8).below hb).ref k1 e1 s1 q1 b1 (fun h => by subst h; exact proper_2 hpr) (fun h => by subst h; exact (proper_4 hpr).2.2))
      have hDEL := fun x kvc hkc (R : RefAt x rp a r kvc hkc) => hide (refDeliver_any R k1 e1 s1 q1 b1 hpr (fun s hs => by have := (unhide GG).sum s hs; omega))
      clear hS HER hk1 he1 hs1 hq1 hb1 HRV hr hpr HP HH HAA HPU
      have hql := lt_of_block (unhide M8).blk
      have hfl := (unhide M8).fl
      obtain ⟨b0, b1', b2, b3, b4⟩ := (unhide M8).box
      unfold ptrTo at *
      obtain ⟨n0, hn0⟩ : ∃ n, n = a.says k1 e1 s1 q1 b1 0 := ⟨_, rfl⟩
      obtain ⟨n1, hn1⟩ : ∃ n, n = a.says k1 e1 s1 q1 b1 1 := ⟨_, rfl⟩
      obtain ⟨n2, hn2⟩ : ∃ n, n = a.says k1 e1 s1 q1 b1 2 := ⟨_, rfl⟩
      rw [← hn0, ← hn1, ← hn2] at hSAY
      clear hn0 hn1 hn2
      have HFL := hide (And.intro (fun k (h : RefU rp lv hk k) => (unhide M8).ref.lt k h) (And.intro (unhide M8).prlt (And.intro (unhide M8).wat.us_lt (And.intro (fun b o h => ((unhide M8).a2 b o h).1) (And.intro (unhide M8).fl (unhide M8).far.size)))))
      go_upto_region 14 with fail
      refine wp_region_last (by kernel_rfl)
        [fun v _ => v = .pointer (some ⟨q, 0, none⟩), fun v _ => v = .pointer (some ⟨q, 0, none⟩), fun v _ => v = .pointer (some ⟨q, 1, none⟩), fun v _ => v = .pointer (some ⟨rp, 0, none⟩), fun v _ => v = .agg #[.int .i64 k1, .int .i64 e1, .int .i64 s1, .int .i64 q1, .string b1], fun v _ => v = .agg #[.int .i64 n0, .int .i64 n1, .int .i64 n2], Three x8.heap.size, fun _ _ => True]
        [[(1, none)], [(84, some 0)], [(85, some 1)], [(86, some 2)], [(9, none)], [(87, some 3), (88, some 4)], [], [(14, some 6), (89, some 5)]] [some 84, some 85, some 86, some 87, some 88, some 89, some 14, none] [false, false, false, false, false, false, false, false, false, false, false, false, false, false, true, false, false, false, false, false, false, false, false, false, false, false, false, false, false, false, false, false, false, false, false, false, false, false, false, false, false, false, false, false, false, false, false, false, false, false, false, false, false, false, false, false, false, false, false, false, false, false, false, false, false, false, false, false, false, false, false, false, false, false, false, false, false, false, false, false, false, false, false, false, true, true, true, true, true, true, false, false, false, false, false, false, false, false, false, false, false, false, false, false, false, false, false, false, false, false, false, false, false]
        7 _ rfl rfl (by kernel_rfl) (by kernel_rfl) (by kernel_rfl) (by kernel_rfl) (by kernel_rfl) (by kernel_rfl) ?_ ?_ ?_
      · repeat' (first | exact stable_eq _ | exact stable_three _ | exact stable_true | exact trivial | apply And.intro)
      · refine ⟨?_, ?_, ?_, ?_, ?_, ?_, ?_, trivial⟩
        all_goals
          intro b x hb hf
          have y1 := (hb.cell (p := ⟨q, 1, none⟩) hql).trans c1
          have z0 := (hb.cell (p := ⟨f, 0, none⟩) hfl).trans b0
          have z1 := (hb.cell (p := ⟨f, 1, none⟩) hfl).trans b1'
          have z2 := (hb.cell (p := ⟨f, 2, none⟩) hfl).trans b2
          have z3 := (hb.cell (p := ⟨f, 3, none⟩) hfl).trans b3
          have z4 := (hb.cell (p := ⟨f, 4, none⟩) hfl).trans b4
          have HSx := hSAY x hb
          have hxx := hb.size
          clear hb
          simp only [PlanFacts, List.getD_cons_zero, List.getD_cons_succ, Array.getD_eq_getD_getElem?] at hf
          try simp at hf
          try go_simp
          try exact Below.refl _ _
        all_goals first
          | exact ⟨rfl, Below.refl _ _⟩
          | (refine (unhide HSx).mono ?_; rintro e x' ⟨rfl, hb2⟩; exact ⟨rfl, hb2⟩)
          | (refine (unhide HSx).mono ?_; rintro e x' ⟨rfl, hb2⟩; exact ⟨_, rfl, hb2, rfl⟩)
          | exact ⟨_, rfl, (Below.refl _ _).alloc (Nat.le_refl _) _, _, rfl, hxx, heap_alloc_new x _⟩
          | exact ⟨(Below.refl _ _).alloc (Nat.le_refl _) _, _, rfl, hxx, heap_alloc_new x _⟩
          | skip
      · intro f9 x9 hb hwd
        simp only [AllWords, List.take] at hwd
        have h5 := hwd.2.2.2.2.2.1
        obtain ⟨g14, e14, hg14, h14⟩ := hwd.2.2.2.2.2.2.1
        have M9 := hide ((unhide M8).below hb)
        have hx9 := hb.size
        clear hwd hb hSAY c1 d4 b0 b1' b2 b3 b4 hql hfl
        simp only [mergeT, h5, e14]
        refine wp_store_row 98 (.tmp 14) (.tmp 89) rfl g14 #[.int .i64 n0, .int .i64 n1, .int .i64 n2] rfl rfl 98 _ h14 (by rw [size_three]; rfl) rfl (by rw [Array.all_eq_true_iff_forall_mem]; intro u hu; simp at hu; rcases hu with rfl | rfl | rfl <;> rfl) ?_
        have hwx9 := (unhide HFL).2.2.2.2.2
        have M10 := hide ((unhide M9).any (far_setRow x9 g14 #[.int .i64 n0, .int .i64 n1, .int .i64 n2]) (fun k (e : k = g14) => ⟨by omega, fun h => by have := (unhide HFL).2.1 k h; omega, fun h => by have := (unhide HFL).2.2.1 k h; omega, fun h => by
          rcases h with h | ⟨j, hj, _⟩
          · cases h
          · simp at hj, fun o h => by have := (unhide HFL).2.2.2.1 k o h; omega, fun h => by have := (unhide HFL).2.2.2.2.1; omega⟩))
        have h14' : Hid ((x9.setRow g14 #[.int .i64 n0, .int .i64 n1, .int .i64 n2]).heap[g14]? = some (.cells #[.int .i64 n0, .int .i64 n1, .int .i64 n2] 98 (0, 0))) := hide (setRow_heap _ _ _ _ _ _ h14)
        clear M9 h14 e14 h5
        generalize f9 84 = x84
        generalize f9 85 = x85
        generalize f9 86 = x86
        generalize f9 87 = x87
        generalize f9 88 = x88
        go_simp
        go_upto_region 15 with fail
        refine wp_world (fun x => ATM C A A2 w x wb q sv rp as_ ss hv hv2 hs2 a (a.deliver k1 e1 s1 q1 b1) r lv lv hk hk U U' left x2.heap.size f k1 e1 s1 q1 b1 (.slice none 0 0) [] [] ∧ x.heap[g14]? = some (.cells #[.int .i64 n0, .int .i64 n1, .int .i64 n2] 98 (0, 0))) ⟨unhide M10, unhide h14'⟩ ?_
        clear M10 h14' hx9
        rintro x10 ⟨T10, hg10⟩
        have hql := lt_of_block T10.blk
        have hfl := T10.fl
        have hgl := lt_of_block hg10
        have c1 := blk_cell (i := 1) T10.blk
        simp [ptrTo] at c1
        obtain ⟨b0, b1', b2, b3, b4⟩ := T10.box
        have M10 := hide T10
        have H14 := hide hg10
        clear T10 hg10
        refine wp_region_last (by kernel_rfl)
          [fun v _ => v = .pointer (some ⟨q, 0, none⟩), fun v _ => v = .pointer (some ⟨q, 0, none⟩), fun v _ => v = .pointer (some ⟨q, 1, none⟩), fun v _ => v = .pointer (some ⟨rp, 0, none⟩), fun v _ => v = .agg #[.int .i64 k1, .int .i64 e1, .int .i64 s1, .int .i64 q1, .string b1], fun _ _ => True]
          [[(1, none)], [(90, some 0)], [(91, some 1)], [(92, some 2)], [(9, none)], [(93, some 3), (94, some 4)]] [some 90, some 91, some 92, some 93, some 94, some 95] [false, false, false, false, false, false, false, false, false, false, false, false, false, false, false, false, false, false, false, false, false, false, false, false, false, false, false, false, false, false, false, false, false, false, false, false, false, false, false, false, false, false, false, false, false, false, false, false, false, false, false, false, false, false, false, false, false, false, false, false, false, false, false, false, false, false, false, false, false, false, false, false, false, false, false, false, false, false, false, false, false, false, false, false, false, false, false, false, false, false, true, true, true, true, true, true, false, false, false, false, false, false, false, false, false, false, false, false, false, false, false, false, false]
          5 _ rfl rfl (by kernel_rfl) (by kernel_rfl) (by kernel_rfl) (by kernel_rfl) (by kernel_rfl) (by kernel_rfl) ?_ ?_ ?_
        · repeat' (first | exact stable_eq _ | exact stable_true | exact trivial | apply And.intro)
        · refine ⟨?_, ?_, ?_, ?_, ?_, trivial⟩
          all_goals
            intro b x hb hf
            have y1 := (hb.cell (p := ⟨q, 1, none⟩) hql).trans c1
            have z0 := (hb.cell (p := ⟨f, 0, none⟩) hfl).trans b0
            have z1 := (hb.cell (p := ⟨f, 1, none⟩) hfl).trans b1'
            have z2 := (hb.cell (p := ⟨f, 2, none⟩) hfl).trans b2
            have z3 := (hb.cell (p := ⟨f, 3, none⟩) hfl).trans b3
            have z4 := (hb.cell (p := ⟨f, 4, none⟩) hfl).trans b4
            clear hb
            simp only [PlanFacts, List.getD_cons_zero, List.getD_cons_succ, Array.getD_eq_getD_getElem?] at hf
            try simp at hf
            try go_simp
            try exact Below.refl _ _
          all_goals first
            | exact ⟨rfl, Below.refl _ _⟩
            | exact ⟨_, rfl, Below.refl _ _, rfl⟩
            | skip
        · intro f10 x11 hb hwd
          simp only [AllWords, List.take] at hwd
          have h3 := hwd.2.2.2.1
          have h4 := hwd.2.2.2.2.1
          have M11 := hide ((unhide M10).below hb)
          have H15 := hide ((hb.block _ hgl).trans (unhide H14))
          have HC := hide (unhide (hDEL x11 _ _ (unhide M11).ref))
          clear hwd hb c1 b0 b1' b2 b3 b4 hql hfl hgl hDEL M10 H14
          simp only [mergeT, h3, h4]
          generalize f10 90 = x90
          generalize f10 91 = x91
          generalize f10 92 = x92
          go_simp
          refine (unhide HC).mono ?_
          rintro r11 x12 ⟨rfl, kvd, hkd, R', F', hN'⟩
          obtain ⟨kvd, hkd, T12⟩ := (unhide M11).step ⟨kvd, hkd, R', F', hN'⟩
          have hg12 := F'.blk (unhide H15) (fun h => by have := (unhide HFL).1 g14 h; omega)
          have y0 := blk_cell (i := 0) hg12
          have y1 := blk_cell (i := 1) hg12
          have y2 := blk_cell (i := 2) hg12
          simp at y0 y1 y2
          have M12 := hide T12
          have hcmp := fun z => eq_three n0 n1 n2 0 0 0 z
          clear T12 R' F' hN' hg12 HC M11 H15 h3 h4
          obtain ⟨zz, hzz⟩ : ∃ zz, zz = ((n0 : Int) == 0 && ((n1 : Int) == 0 && (n2 : Int) == 0)) := ⟨_, rfl⟩
          rw [← hzz] at hcmp
          clear hzz
          cases zz with
          | true =>
            go_wp2
            go_ret
            rw [unhide HS]
            exact ⟨rfl, HDONE (unhide GD) (by first | exact unhide M12 | exact (unhide M12).below (below_drewN (Below.refl _ _) _))⟩
          | false =>
            go_wp2_with (go_at_call 171; refine (wroteAg_any _ q sv rp left (by first | exact (unhide M12).blk | simpa using (unhide M12).blk)).mono ?_; rintro r13 x13 ⟨rfl, left', rfl⟩)
            go_ret
            rw [unhide HS]
            exact ⟨rfl, HDONE (unhide GD) (by first | exact (unhide M12).wrote (unhide FX).2.2.2 _ | exact (ATM.below (unhide M12) (below_drewN (Below.refl _ _) _)).wrote (unhide FX).2.2.2 _)⟩
end Go.Proofs.YtamafdcnbcoegaaGreat
namespace Go.Proofs.YtamafdcnbcoegaaGreat
open Go.RowKit

set_option maxRecDepth 100000 in
set_option maxHeartbeats 4000000 in
theorem onAgent_get {top M : Nat} (C : AgentC top) (A : Nat → Nat → Prop) (w : World) (wb : Nat) (as_ ss hv : Value) (hs : List Nat) (nn i : Int) (s : ByteArray) (kp fk fe fst fq : Int) (fb : ByteArray) (q sv rp : Nat) (a : Mod.Ag) (r : RRest) (kv hk : Nat → Value) (U : Nat → Prop) (left : Int)
    (H : WorldAt A w wb as_ ss hv hs) (P : AgPairAt C M w q sv rp a r kv hk U left) (hM : M < top) (hM2 : M ≤ 2147483647) (hA : ∀ b o, A b o → b < w.heap.size ∧ ¬ Us wb hv b ∧ ¬ AgPairU q rp kv hk U b) (hPU : ∀ k, AgPairU q rp kv hk U k → ¬ Us wb hv k) (zs : s.size ≤ 140737488353980) (zh : hs.length + 12 ≤ 17592186044416) :
    Calls Tryz.prog 80 #[ptrTo wb, ptrTo q, opVal 6 nn i s kp fk fe fst fq fb] w fun x w' => x = .returned (.bool true) ∧ AgTaken C M A w w' wb q sv rp as_ ss hv (agSays a s.data.toList).2 r kv hk U (hs.length + 12) := by
  have HB := hide ((Below.refl w.heap.size w).alloc (Nat.le_refl _) (.cells #[.int .i64 6, .int .i64 nn, .int .i64 i, .string s, .int .u64 kp, .int .i64 fk, .int .i64 fe, .int .i64 fst, .int .i64 fq, .string fb] 86))
  have P1 := P.far (far_below (E := fun _ => False) (unhide HB)) (fun _ _ h => h)
  have H1 := H.far (far_below (E := fun _ => False) (unhide HB)) (fun _ _ h => h) (fun b o h => ⟨(hA b o h).1, fun h => h⟩)
  have KT := hide (got_any C A _ wb as_ ss hv hs 6 nn i s kp fk fe fst fq fb q sv rp a r kv hk U left H1 P1 hM hM2 (fun b o h => ⟨Nat.lt_of_lt_of_le (hA b o h).1 (unhide HB).size, (hA b o h).2⟩) hPU zs zh)
  clear P1 H1 P H hA hPU
  unfold ptrTo opVal at *
  go_enter Tryz.func80, Tryz.ntmps80
  go_wp2_with (go_at_call 121; refine (unhide KT).mono ?_; rintro r5 x5 ⟨rfl, TT⟩)
  go_ret
  refine ⟨rfl, ?_⟩
  obtain ⟨hv3, hs3, lvd, hkd, U', left', hN3, W3, P3, r3, u3, F3, L3⟩ := TT.all
  have hsz := (unhide HB).size
  exact ⟨hv3, hs3, lvd, hkd, U', left', hN3, W3.mono (fun b o h => ⟨h.1, h.2.1, h.2.2.1, h.2.2.2.imp id (fun h => Nat.le_trans hsz h)⟩), P3, fun k h => (r3 k h).imp id (fun h => Nat.le_trans hsz h), u3, (far_below (E := fun k => AgPairU q rp kv hk U k ∨ Us wb hv k) (unhide HB)).trans F3 (fun _ _ h => h), L3.mono hsz⟩
theorem AgTaken.up {top M M2 N N2 : Nat} {C : AgentC top} {A : Nat → Nat → Prop} {w y : World} {wb q sv rp : Nat} {as_ ss hv : Value} {a' : Mod.Ag} {r : RRest} {kv hk : Nat → Value} {U : Nat → Prop} (T : AgTaken C M A w y wb q sv rp as_ ss hv a' r kv hk U N) (hM : M ≤ M2) (hN : N ≤ N2) : AgTaken C M2 A w y wb q sv rp as_ ss hv a' r kv hk U N2 := by
  obtain ⟨hv3, hs3, lvd, hkd, U', left', hN3, W3, P3, r3, u3, F3, L3⟩ := T.all
  exact ⟨hv3, hs3, lvd, hkd, U', left', Nat.le_trans hN3 hN, W3, ⟨P3.blk, P3.prog, P3.ref, P3.dead, P3.good.mono hM, P3.qU, P3.qR, P3.UR⟩, r3, u3, F3, L3⟩
/-- Any step on an agent. -/
theorem onAgent_any {top M : Nat} (C : AgentC top) (A : Nat → Nat → Prop) (w : World) (wb : Nat) (as_ ss hv : Value) (hs : List Nat) (kd nn i : Int) (s : ByteArray) (kp fk fe fst fq : Int) (fb : ByteArray) (q sv rp : Nat) (a : Mod.Ag) (r : RRest) (kv hk : Nat → Value) (U : Nat → Prop) (left : Int)
    (H : WorldAt A w wb as_ ss hv hs) (P : AgPairAt C M w q sv rp a r kv hk U left) (hkd : kd = 4 ∨ kd = 5 ∨ kd = 6 ∨ kd = 7) (hM : M < top) (hM2 : M + 1 ≤ 2147483647) (hA : ∀ b o, A b o → b < w.heap.size ∧ ¬ Us wb hv b ∧ ¬ AgPairU q rp kv hk U b) (hPU : ∀ k, AgPairU q rp kv hk U k → ¬ Us wb hv k) (zs : s.size ≤ 140737488353980) (zh : hs.length + 52 ≤ 17592186044416) :
    Calls Tryz.prog 80 #[ptrTo wb, ptrTo q, opVal kd nn i s kp fk fe fst fq fb] w fun x w' => x = .returned (.bool true) ∧ ∃ a', AgTaken C (M + 1) A w w' wb q sv rp as_ ss hv a' r kv hk U (hs.length + 52) := by
  rcases hkd with rfl | rfl | rfl | rfl
  · refine (onAgent_submit C A w wb as_ ss hv hs nn i s kp fk fe fst fq fb q sv rp a r kv hk U left H P hM hA hPU).mono ?_
    rintro x w' ⟨rfl, T⟩
    exact ⟨rfl, _, T.up (Nat.le_refl _) (by omega)⟩
  · refine (onAgent_tick C A w wb as_ ss hv hs nn i s kp fk fe fst fq fb q sv rp a r kv hk U left H P hM hM2 hA hPU zh).mono ?_
    rintro x w' ⟨rfl, T⟩
    exact ⟨rfl, _, T⟩
  · refine (onAgent_get C A w wb as_ ss hv hs nn i s kp fk fe fst fq fb q sv rp a r kv hk U left H P hM (by omega) hA hPU zs (by omega)).mono ?_
    rintro x w' ⟨rfl, T⟩
    exact ⟨rfl, _, T.up (by omega) (by omega)⟩
  · refine (onAgent_spool C A w wb as_ ss hv hs nn i s kp fk fe fst fq fb q sv rp a r kv hk U left H P hA hPU (by omega)).mono ?_
    rintro x w' ⟨rfl, T⟩
    exact ⟨rfl, _, T.up (by omega) (by omega)⟩
end Go.Proofs.YtamafdcnbcoegaaGreat
namespace Go.Proofs.YtamafdcnbcoegaaGreat
open Go.RowKit

theorem map_set_same {α β : Type} (f : α → β) (l : List α) (i : Nat) (u v : α) (hu : l[i]? = some u) (h : f v = f u) : (l.set i v).map f = l.map f := by
  rw [List.map_set]
  apply List.ext_getElem?
  intro j
  rw [List.getElem?_set]
  split
  · rename_i e
    subst e
    have hl := (List.getElem?_eq_some_iff.1 hu).1
    rw [if_pos (by simpa using hl), List.getElem?_map, hu, h]
    rfl
  · rfl
end Go.Proofs.YtamafdcnbcoegaaGreat
namespace Go.Proofs.YtamafdcnbcoegaaGreat
open Go.RowKit

def pickN (c : Int) (n : Nat) : Nat := ((if c < 0 then -(c + 1) else c) % (n : Int)).toNat
theorem pickN_lt (c : Int) {n : Nat} (hn : 0 < n) : pickN c n < n := by
  unfold pickN
  have h1 := Int.emod_lt_of_pos (if c < 0 then -(c + 1) else c) (show (0 : Int) < n by omega)
  have h2 := Int.emod_nonneg (if c < 0 then -(c + 1) else c) (show (n : Int) ≠ 0 by omega)
  omega
set_option maxRecDepth 100000 in
theorem pick_any (c : Int) (n : Nat) (w : World) (hc : -9223372036854775808 ≤ c ∧ c ≤ 9223372036854775807) (hn : 0 < n) (hn6 : n ≤ 1000) :
    Calls Tryz.prog 81 #[.int .i64 c, .int .i64 n] w fun r w' => r = .returned (.int .i64 (pickN c n)) ∧ w' = w := by
  have hn0 : ¬ (n : Int) = 0 := by omega
  have hn1 : ¬ (n : Int) = -1 := by omega
  have hb : ((n : Int) == 0) = false := by simp; omega
  have HJ : Hid ((pickN c n : Int) = (if c < 0 then -(c + 1) else c) % (n : Int)) := by
    have h2 := Int.emod_nonneg (if c < 0 then -(c + 1) else c) hn0
    unfold pickN
    show _ = _
    omega
  generalize pickN c n = j at HJ
  obtain ⟨d, hd⟩ : ∃ d, d = if c < 0 then -(c + 1) else c := ⟨_, rfl⟩
  rw [← hd] at HJ
  have hd0 : 0 ≤ d ∧ d ≤ 9223372036854775807 := by rw [hd]; split <;> omega
  by_cases h : c < 0
  · rw [if_pos h] at hd
    have hw1 : IntKind.i64.wrap (c + 1) = c + 1 := by rw [IntKind.wrap_i64]; omega
    have hw2 : IntKind.i64.wrap (-(c + 1)) = d := by rw [IntKind.wrap_i64]; omega
    clear hd
    go_enter Tryz.func81, Tryz.ntmps81
    go_wp2
    go_ret
    exact ⟨ret_i (unhide HJ).symm, rfl⟩
  · rw [if_neg h] at hd
    subst hd
    go_enter Tryz.func81, Tryz.ntmps81
    go_wp2
    go_ret
    exact ⟨ret_i (unhide HJ).symm, rfl⟩

theorem tmp_bool {t : Array Value} {k : Nat} {c : Bool} (h : t[k]?.getD undef = .bool c) : t[k]? = some (.bool c) := by
  cases hx : t[k]? with
  | none => rw [hx] at h; simp [undef] at h
  | some v => rw [hx] at h; simp at h; rw [h]
end Go.Proofs.YtamafdcnbcoegaaGreat
namespace Go.Proofs.YtamafdcnbcoegaaGreat
open Go.RowKit

structure AgItem where
  q : Nat
  sv : Nat
  rp : Nat
  a : Mod.Ag
  r : RRest
  lv : Nat → Value
  hk : Nat → Value
  U : Nat → Prop
  left : Int
def AgItem.In (it : AgItem) (k : Nat) : Prop := AgPairU it.q it.rp it.lv it.hk it.U k
def AgItem.Is {top : Nat} (C : AgentC top) (n : Nat) (x : World) (it : AgItem) : Prop := AgPairAt C n x it.q it.sv it.rp it.a it.r it.lv it.hk it.U it.left
theorem AgPairAt.up {top n m : Nat} {C : AgentC top} {x : World} {q sv rp : Nat} {a : Mod.Ag} {r : RRest} {kv hk : Nat → Value} {U : Nat → Prop} {left : Int} (P : AgPairAt C n x q sv rp a r kv hk U left) (h : n ≤ m) : AgPairAt C m x q sv rp a r kv hk U left :=
  ⟨P.blk, P.prog, P.ref, P.dead, P.good.mono h, P.qU, P.qR, P.UR⟩
structure AgentsAt {top : Nat} (C : AgentC top) (B n : Nat) (A : Nat → Nat → Prop) (x : World) (wb : Nat) (ssv as_ hv : Value) (hs : List Nat) (its : List AgItem) : Prop where
  hn : hs.length ≤ n
  wat : WorldAt A x wb ssv as_ hv hs
  row : x.ownsRow 0 115 1 ssv its.length (its.map fun it => ptrTo it.q)
  six : its.length ≤ 6
  each : ∀ (i : Nat) (u : AgItem), its[i]? = some u → u.Is C n x
  apart : ∀ (i j : Nat) (u v : AgItem), its[i]? = some u → its[j]? = some v → i ≠ j → ∀ k, u.In k → ¬ v.In k
  us : ∀ (i : Nat) (u : AgItem), its[i]? = some u → ∀ k, u.In k → B ≤ k ∧ ¬ Us wb hv k ∧ ssv.ownBlock ≠ some k
  ssu : ∀ k, ssv.ownBlock = some k → B ≤ k ∧ ¬ Us wb hv k
  usB : ∀ k, Us wb hv k → B ≤ k
  bx : B ≤ x.heap.size
  a2 : ∀ b o, A b o → b < x.heap.size ∧ ¬ Us wb hv b ∧ ssv.ownBlock ≠ some b ∧ ∀ (i : Nat) (u : AgItem), its[i]? = some u → ¬ u.In b

/-- All their blocks lie below D. -/
def ABnd (D wb : Nat) (ssv hv : Value) (its : List AgItem) : Prop := ∀ k, (Us wb hv k ∨ ssv.ownBlock = some k ∨ ∃ (i : Nat) (u : AgItem), its[i]? = some u ∧ u.In k) → k < D
theorem AgentsAt.bnd {top : Nat} {C : AgentC top} {B n : Nat} {A : Nat → Nat → Prop} {x : World} {wb : Nat} {ssv as_ hv : Value} {hs : List Nat} {its : List AgItem} (S : AgentsAt C B n A x wb ssv as_ hv hs its) : ABnd x.heap.size wb ssv hv its := by
  rintro k (h | h | ⟨i, u, hu, h⟩)
  · exact S.wat.us_lt k h
  · exact (World.ownsRow.lt S.row k h).2
  · exact (S.each i u hu).lt k h
theorem AgentsAt.below {top : Nat} {C : AgentC top} {B n : Nat} {A : Nat → Nat → Prop} {x y : World} {wb : Nat} {ssv as_ hv : Value} {hs : List Nat} {its : List AgItem} (S : AgentsAt C B n A x wb ssv as_ hv hs its) (hb : Below x.heap.size x y) : AgentsAt C B n A y wb ssv as_ hv hs its := by
  have F : Far (fun _ => False) x y := far_below hb
  exact ⟨S.hn, S.wat.far F (fun _ _ h => h) (fun b o h => ⟨(S.a2 b o h).1, fun h => h⟩), F.own S.row (fun _ _ h => h), S.six, fun i u hu => (S.each i u hu).far F (fun _ _ h => h), S.apart, S.us, S.ssu, S.usB, Nat.le_trans S.bx hb.size, fun b o h => ⟨Nat.lt_of_lt_of_le (S.a2 b o h).1 hb.size, (S.a2 b o h).2⟩⟩
/-- What a step on one of them leaves. -/
theorem AgentsAt.step {top : Nat} {C : AgentC top} {B n m : Nat} {A : Nat → Nat → Prop} {x y : World} {wb : Nat} {ssv as_ hv : Value} {hs : List Nat} {its : List AgItem} (S : AgentsAt C B n A x wb ssv as_ hv hs its) (i : Nat) (it : AgItem) (hi : its[i]? = some it) {a' : Mod.Ag} {D : Nat} (hD : ABnd D wb ssv hv its)
    (T : AgTaken C m A x y wb it.q it.sv it.rp ssv as_ hv a' it.r it.lv it.hk it.U m) (hnm : n ≤ m) : ∃ A' hv' hs' its', AgentsAt C B m A' y wb ssv as_ hv' hs' its' ∧ Far (fun k => B ≤ k ∧ k < D) x y := by
  obtain ⟨hv3, hs3, lvd, hkd, U', left', hN3, W3, P3, r3, u3, F3, L3⟩ := T.all
  have hil := (List.getElem?_eq_some_iff.1 hi).1
  have hssl := fun k h => (World.ownsRow.lt S.row k h).2
  have hIl : ∀ (j : Nat) (u : AgItem), its[j]? = some u → ∀ k, u.In k → k < x.heap.size := fun j u hu => (S.each j u hu).lt
  have hE : ∀ k, (AgPairU it.q it.rp it.lv it.hk it.U k ∨ Us wb hv k) → B ≤ k := fun k h => h.elim (fun h => (S.us i it hi k h).1) (S.usB k)
  have hset : ∀ (j : Nat) (u : AgItem), (its.set i ⟨it.q, it.sv, it.rp, a', it.r, lvd, hkd, U', left'⟩)[j]? = some u → (j = i ∧ u = ⟨it.q, it.sv, it.rp, a', it.r, lvd, hkd, U', left'⟩) ∨ (j ≠ i ∧ its[j]? = some u) := by
    intro j u hu
    rw [List.getElem?_set] at hu
    split at hu
    · rename_i e
      injection hu with hu
      exact .inl ⟨e.symm, hu.symm⟩
    · rename_i e
      exact .inr ⟨fun h => e h.symm, hu⟩
  have hus3 : ∀ k, k < x.heap.size → ¬ Us wb hv k → ¬ Us wb hv3 k := by
    rintro k hk h (e | e)
    · exact h (.inl e)
    · rcases L3 with h' | h' | ⟨g', h', hg'⟩
      · rw [h'] at e; cases e
      · exact h (.inr (h' ▸ e))
      · rw [h'] at e; injection e with e; omega
  have hno : ∀ (j : Nat) (u : AgItem), j ≠ i → its[j]? = some u → ∀ k, u.In k → ¬ (AgPairU it.q it.rp it.lv it.hk it.U k ∨ Us wb hv k) := by
    rintro j u hj hu k hk (e | e)
    · exact S.apart j i u it hu hi hj k hk e
    · exact (S.us j u hu k hk).2.1 e
  refine ⟨_, hv3, hs3, its.set i ⟨it.q, it.sv, it.rp, a', it.r, lvd, hkd, U', left'⟩, ⟨hN3, W3, ?_, by rw [List.length_set]; exact S.six, ?_, ?_, ?_, ?_, ?_, Nat.le_trans S.bx F3.size, ?_⟩, F3.mono (fun k _ h => ⟨hE k h, hD k (h.elim (fun h => .inr (.inr ⟨i, it, hi, h⟩)) .inl)⟩)⟩
  · rw [List.length_set, map_set_same (fun it : AgItem => ptrTo it.q) its i it ⟨it.q, it.sv, it.rp, a', it.r, lvd, hkd, U', left'⟩ hi rfl]
    refine F3.own S.row (fun g hg => ?_)
    rintro (e | e)
    · exact (S.us i it hi g e).2.2 hg
    · exact (S.ssu g hg).2 e
  · intro j u hu
    rcases hset j u hu with ⟨rfl, rfl⟩ | ⟨hj, hu⟩
    · exact P3
    · exact ((S.each j u hu).far F3 (hno j u hj hu)).up hnm
  · intro j k u v hu hv' hjk g hg hg'
    rcases hset j u hu with ⟨rfl, rfl⟩ | ⟨hj, hu1⟩
    · rcases hset k v hv' with ⟨rfl, rfl⟩ | ⟨hk, hv1⟩
      · exact hjk rfl
      · rcases r3 g hg with h | h
        · exact S.apart j k it v hi hv1 hjk g h hg'
        · have := hIl k v hv1 g hg'; omega
    · rcases hset k v hv' with ⟨rfl, rfl⟩ | ⟨hk, hv1⟩
      · rcases r3 g hg' with h | h
        · exact S.apart j k u it hu1 hi hjk g hg h
        · have := hIl j u hu1 g hg; omega
      · exact S.apart j k u v hu1 hv1 hjk g hg hg'
  · intro j u hu k hk
    rcases hset j u hu with ⟨rfl, rfl⟩ | ⟨hj, hu⟩
    · refine ⟨?_, u3 k hk, fun e => ?_⟩
      · rcases r3 k hk with h | h
        · exact (S.us j it hi k h).1
        · have := S.bx; omega
      · rcases r3 k hk with h | h
        · exact (S.us j it hi k h).2.2 e
        · have := hssl k e; omega
    · have h := S.us j u hu k hk
      exact ⟨h.1, hus3 k (hIl j u hu k hk) h.2.1, h.2.2⟩
  · intro k h
    have h1 := S.ssu k h
    exact ⟨h1.1, hus3 k (hssl k h) h1.2⟩
  · rintro k (e | e)
    · exact S.usB k (.inl e)
    · rcases L3 with h' | h' | ⟨g', h', hg'⟩
      · rw [h'] at e; cases e
      · exact S.usB k (.inr (h' ▸ e))
      · rw [h'] at e; injection e with e; have := S.bx; omega
  · rintro b o ⟨h1, h2, h3, h4⟩
    refine ⟨h1, h2, fun e => ?_, fun j u hu hb => ?_⟩
    · rcases h4 with h4 | h4
      · exact (S.a2 b o h4).2.2.1 e
      · have := hssl b e; omega
    · rcases hset j u hu with ⟨rfl, rfl⟩ | ⟨hj, hu⟩
      · exact h3 hb
      · rcases h4 with h4 | h4
        · exact (S.a2 b o h4).2.2.2 j u hu hb
        · have := hIl j u hu b hb; omega
/-- What one more sink makes of them. -/
theorem AgentsAt.more {top : Nat} {C : AgentC top} {B n : Nat} {A : Nat → Nat → Prop} {x y : World} {wb : Nat} {ssv as_ hv ss2 : Value} {hs : List Nat} {its : List AgItem} (S : AgentsAt C B n A x wb ssv as_ hv hs its) (it : AgItem) (h6 : its.length < 6)
    (hF : Far (fun k => k = wb ∨ ssv.ownBlock = some k) x y) (hwb : y.heap[wb]? = some (.cells #[ss2, as_, hv] 83 (0, 0))) (hrow : y.ownsRow 0 115 1 ss2 (its.length + 1) (its.map (fun it => ptrTo it.q) ++ [ptrTo it.q]))
    (hss : ∀ g, ss2.ownBlock = some g → ssv.ownBlock = some g ∨ x.heap.size ≤ g) (hI : it.Is C n y) (hnew : ∀ k, it.In k → x.heap.size ≤ k ∧ ss2.ownBlock ≠ some k) : AgentsAt C B n A y wb ss2 as_ hv hs (its ++ [it]) := by
  have hssl := fun k h => (World.ownsRow.lt S.row k h).2
  have hIl : ∀ (j : Nat) (u : AgItem), its[j]? = some u → ∀ k, u.In k → k < x.heap.size := fun j u hu => (S.each j u hu).lt
  have husl := S.wat.us_lt
  have hget : ∀ (j : Nat) (u : AgItem), (its ++ [it])[j]? = some u → its[j]? = some u ∨ (j = its.length ∧ u = it) := by
    intro j u hu
    rcases Nat.lt_or_ge j its.length with h | h
    · rw [List.getElem?_append_left h] at hu
      exact .inl hu
    · rw [List.getElem?_append_right h] at hu
      by_cases e : j = its.length
      · subst e
        simp at hu
        exact .inr ⟨rfl, hu.symm⟩
      · rw [List.getElem?_eq_none (by simp; omega)] at hu
        cases hu
  have hno : ∀ (j : Nat) (u : AgItem), its[j]? = some u → ∀ k, u.In k → ¬ (k = wb ∨ ssv.ownBlock = some k) := by
    rintro j u hu k hk (e | e)
    · exact (S.us j u hu k hk).2.1 (.inl e)
    · exact (S.us j u hu k hk).2.2 e
  have hhv : ∀ g, hv.ownBlock = some g → ¬ (g = wb ∨ ssv.ownBlock = some g) := by
    rintro g hg (e | e)
    · exact own_ne S.wat.row S.wat.blk (by decide) (by rw [← e]; exact hg)
    · exact (S.ssu g e).2 (.inr hg)
  refine ⟨S.hn, ⟨hwb, hF.own S.wat.row hhv, fun p hp => (S.wat.all p hp).keep (fun b o h => World.cell?_of_block (hF.rest b (S.a2 b o h).1 (fun e => e.elim (fun e => (S.a2 b o h).2.1 (.inl e)) (S.a2 b o h).2.2.1)))⟩, by simpa using hrow, by simp; omega, ?_, ?_, ?_, ?_, S.usB, Nat.le_trans S.bx hF.size, ?_⟩
  · intro j u hu
    rcases hget j u hu with hu | ⟨rfl, rfl⟩
    · exact (S.each j u hu).far hF (hno j u hu)
    · exact hI
  · intro j k u v hu hv' hjk g hg hg'
    rcases hget j u hu with hu1 | ⟨rfl, rfl⟩
    · rcases hget k v hv' with hv1 | ⟨rfl, rfl⟩
      · exact S.apart j k u v hu1 hv1 hjk g hg hg'
      · have := hIl j u hu1 g hg; have := (hnew g hg').1; omega
    · rcases hget k v hv' with hv1 | ⟨rfl, rfl⟩
      · have := hIl k v hv1 g hg'; have := (hnew g hg).1; omega
      · exact hjk rfl
  · intro j u hu k hk
    rcases hget j u hu with hu | ⟨rfl, rfl⟩
    · have h := S.us j u hu k hk
      refine ⟨h.1, h.2.1, fun e => ?_⟩
      rcases hss k e with e | e
      · exact h.2.2 e
      · have := hIl j u hu k hk; omega
    · have h := hnew k hk
      exact ⟨Nat.le_trans S.bx h.1, fun e => by have := husl k e; omega, h.2⟩
  · intro k h
    rcases hss k h with e | e
    · exact S.ssu k e
    · exact ⟨Nat.le_trans S.bx e, fun e' => by have := husl k e'; omega⟩
  · rintro b o h
    have h1 := S.a2 b o h
    refine ⟨Nat.lt_of_lt_of_le h1.1 hF.size, h1.2.1, fun e => ?_, fun j u hu hb => ?_⟩
    · rcases hss b e with e | e
      · exact h1.2.2.1 e
      · omega
    · rcases hget j u hu with hu | ⟨rfl, rfl⟩
      · exact h1.2.2.2 j u hu hb
      · have := (hnew b hb).1; omega
end Go.Proofs.YtamafdcnbcoegaaGreat
