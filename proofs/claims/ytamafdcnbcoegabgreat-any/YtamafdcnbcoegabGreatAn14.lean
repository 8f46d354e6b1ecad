/-
  Part 14 of a proof: L22, MonoIn, L23, L24, L25, U3, L26, D25, B1.
-/
import Derived.OrdersIn
import Derived.Maps.AppendAt
import Derived.Sort.CutIn
import Derived.Test.YtamafdcnbcoegabGreatAn13
namespace Go.Proofs.YtamafdcnbcoegabGreat
open Go.RowKit
section
variable {w W z:World} {g0 p i:Nat} {c c':Av} {st:Mod.Stv} {g:Nat→Nat} {free:List Nat} {sh:Nat→List (Nat × Value)} {pl:Nat→List Nat} {F:List ByteArray} {A:Mod.Ag} {lv lv' v:Value} {fs:List Value} {b:ByteArray}
theorem sendI_app (h:SendI w g0 p i c st g free pl F A W) (m1:W.heap[g0+2]? = some (.cells #[lv] 32 (0,0))) (m2:FramesOut (g0+8) W lv fs F (PaU p c')) (m3:PaAt W p g A.ticks A.welcome A.fenced free sh st c') (m4:OnAg A st.opening g free sh pl) (m5:Far (PaU p c) w W)
  (m6:∀ j,PaU p c' j→PaU p c j ∨ g0+8 ≤ j) (m7:c'.s=c.s) (m8:c'.rv=c.rv) (m9:c'.nv (i * 3)=c.nv (i * 3)) (m10:c'.mv (i * 3)=c.mv (i * 3))
  (hF:Far (fun k => lv.ownBlock=some k) W z) (hv:Owns W.heap.size z v b.data.toList) (hr:z.ownsRow (g0+8) 48 1 lv' (fs.length+1) (fs ++ [v])) (hl:∀ k,lv'.ownBlock=some k→lv.ownBlock=some k ∨ W.heap.size ≤ k) :
  SendI w g0 p i c st g free pl (F ++ [b]) A (z.setCell ⟨g0+2,0,none⟩ lv'):=by
 have hset:=far_set z (g0+2) 0 lv'
 have hsz:=h.sz
 have hgw:=h.gw
 have hzz:=hF.size
 have hlb:∀ k,lv.ownBlock=some k→g0+8 ≤ k∧k < W.heap.size:=fun k hk => m2.lt k (.inl hk)
 have hFF:Far (fun k => lv.ownBlock=some k ∨ k=g0+2) W (z.setCell ⟨g0+2,0,none⟩ lv'):=(hF.mono (fun _ _ h => .inl h)).trans hset (fun _ _ h => .inr h)
 have hno:∀ k,PaU p c' k→¬ (lv.ownBlock=some k ∨ k=g0+2):=fun k hk e => by
  rcases e with e | e
  ·exact m2.clear k (.inl e) hk
  ·rcases m6 k hk with h1 | h1
   ·have:=h.lo k h1;omega
   ·omega
 have hq:∀ k,k ≠ g0+2→k < g0+8→(z.setCell ⟨g0+2,0,none⟩ lv').heap[k]? = W.heap[k]?:=fun k h1 h2 => hFF.rest k (by omega) (fun e => e.elim (fun e => by have:=(hlb k e).1;omega) (fun e => h1 e))
 have hlen:=m2.len
 have hvl:∀ k,v.ownBlock=some k→W.heap.size ≤ k∧k < z.heap.size:=fun k hk => World.ownsRow.lt hv k hk
 have hne:∀ (j:Nat) (u:Value),fs[j]? = some u→∀ k,u.ownBlock=some k→g0+8 ≤ k∧k < W.heap.size∧lv.ownBlock ≠ some k:=fun j u hj k hk => by
  have h1:=World.ownsRow.lt (m2.each j u hj) k hk
  exact ⟨h1.1,h1.2,own_ty (own0 (m2.each j u hj)) (own0 m2.row) (by decide) hk⟩
 have hfr:FramesOut (g0+8) (z.setCell ⟨g0+2,0,none⟩ lv') lv' (fs ++ [v]) (F ++ [b]) (PaU p c'):=by
  refine ⟨by simp [hlen],?_,fun j u hj => ?_,fun j1 j2 u1 u2 hj1 hj2 hjn k hk1 hk2 => ?_,fun k hk hu => ?_⟩
  ·have:=ownsRow_keep hr (w':=z.setCell ⟨g0+2,0,none⟩ lv') (fun k hk => by
    have:=World.ownsRow.lt hr k hk
    exact hset.rest k this.2 (by omega))
   simpa using this
  ·by_cases hjl:j < fs.length
   ·rw [List.getElem?_append_left hjl] at hj
    have e:((F ++ [b]).map fun b => b.data.toList).getD j [] = (F.map fun b => b.data.toList).getD j []:=by
     rw [List.getD_eq_getElem?_getD,List.getD_eq_getElem?_getD,List.map_append,List.getElem?_append_left (by simp;omega)]
    rw [e]
    exact ownsRow_keep (m2.each j u hj) (fun k hk => by
     obtain ⟨h1,h2,h3⟩:=hne j u hj k hk
     exact hFF.rest k h2 (fun e => e.elim h3 (fun e => by omega)))
   ·rw [List.getElem?_append_right (by omega)] at hj
    have hj0:j - fs.length=0:=by
     cases hd:j - fs.length with
     | zero => rfl
     | succ n => rw [hd] at hj;simp at hj
    rw [hj0] at hj
    simp at hj
    subst hj
    have e:((F ++ [b]).map fun b => b.data.toList).getD j [] = b.data.toList:=by
     rw [List.getD_eq_getElem?_getD,List.map_append,List.getElem?_append_right (by simp;omega)]
     simp [show j - F.length=0 by omega]
    rw [e]
    refine ownsRow_monoB (ownsRow_keep hv (fun k hk => ?_)) (Nat.le_trans hsz (Nat.le_refl _))
    have:=hvl k hk
    exact hset.rest k this.2 (by omega)
  ·have hcase:∀ (j:Nat) (u:Value),(fs ++ [v])[j]? = some u→(fs[j]? = some u∧j < fs.length) ∨ (u=v∧j=fs.length):=fun j u hj => by
    by_cases hjl:j < fs.length
    ·rw [List.getElem?_append_left hjl] at hj;exact .inl ⟨hj,hjl⟩
    ·rw [List.getElem?_append_right (by omega)] at hj
     cases hd:j - fs.length with
     | zero => rw [hd] at hj;simp at hj;exact .inr ⟨hj.symm,by omega⟩
     | succ n => rw [hd] at hj;simp at hj
   rcases hcase j1 u1 hj1 with ⟨a1,b1⟩ | ⟨a1,b1⟩ <;> rcases hcase j2 u2 hj2 with ⟨a2,b2⟩ | ⟨a2,b2⟩
   ·exact m2.apart j1 j2 u1 u2 a1 a2 hjn k hk1 hk2
   ·subst a2;have:=hne j1 u1 a1 k hk1;have:=hvl k hk2;omega
   ·subst a1;have:=hne j2 u2 a2 k hk2;have:=hvl k hk1;omega
   ·omega
  ·rcases hk with hk | ⟨j,hj,u,hju,hk⟩
   ·rcases hl k hk with h1 | h1
    ·exact m2.clear k (.inl h1) hu
    ·have:=m3.lt k hu;omega
   ·by_cases hjl:j < fs.length
    ·rw [List.getElem?_append_left hjl] at hju
     exact m2.clear k (.inr ⟨j,hjl,u,hju,hk⟩) hu
    ·rw [List.getElem?_append_right (by omega)] at hju
     have hj0:j - fs.length=0:=by simp at hj;omega
     rw [hj0] at hju
     simp at hju
     subst hju
     have:=hvl k hk
     have:=m3.lt k hu
     omega
 have hb2:(z.setCell ⟨g0+2,0,none⟩ lv').heap[g0+2]? = some (.cells #[lv'] 32 (0,0)):=by
  have hz2:z.heap[g0+2]? = some (.cells #[lv] 32 (0,0)):=(hF.rest (g0+2) (by omega) (fun e => by have:=(hlb _ e).1;omega)).trans m1
  have:=blk_set (j:=0) (v:=lv') hz2
  simpa using this
 exact ⟨(hq _ (by omega) (by omega)).trans h.h0,(hq _ (by omega) (by omega)).trans h.h1,(hq _ (by omega) (by omega)).trans h.h3,(hq _ (by omega) (by omega)).trans h.h4,(hq _ (by omega) (by omega)).trans h.h5,
  ⟨lv',fs ++ [v],c',sh,hb2,hfr,m3.far hFF hno,m4,m5.trans hFF (fun k hk e => e.elim (fun e => by have:=(hlb k e).1;omega) (fun e => by omega)),m6,m7,m8,m9,m10⟩,Nat.le_trans hsz hFF.size,h.lo,h.gw⟩
end
end Go.Proofs.YtamafdcnbcoegabGreat
namespace Go.Proofs.YtamafdcnbcoegabGreat
open Go.RowKit
section
variable {P:Program} {ops:Array Oper} {Q:Exit→Act→World→Prop} {lr n:Nat}
theorem monoIn_any {a0:Act} {w0:World} (Φ:Nat→Value→World→Prop) (hok:monoOk ops a0.tmps.size=true)
  (hst:∀ i v w w',Φ i v w→Below w.heap.size w w' → Φ i v w')
  (hop:∀ i o,ops[i]? = some o→∀ a w,Below w0.heap.size w0 w→GoodAct ops Φ a0 i o a w →
   if Region.wanted o (yielded ops a.tmps)=true then Oper.wpIn (Fence.wide.inRound lr) n P o a w (fun a' w' => ∃ v,a' = a.put o.dst v∧Below w.heap.size w w' ∧ Φ i v w') Q else Φ i undef w)
  (hend:∀ a w,Below w0.heap.size w0 w→(∀ i o d,ops[i]? = some o→o.dst=some d→Φ i (a.tmps.getD d undef) w)→(∀ t,wr ops t=none→a.tmps.getD t undef=a0.tmps.getD t undef)→a.defers=a0.defers→a.tmps.size=a0.tmps.size→Q .normal a w) :
  ∀ (fuel:Nat) (L:Array Bool) (a:Act) (w:World),MonoInv ops Φ a0 w0 L a w→(List.range ops.size).countP (fun i => !L.getD i false) ≤ fuel→wpAnyIn (Fence.wide.inRound lr) n P .any ops Q fuel L a w:=by
 have hrdy:∀ (L:Array Bool) (a:Act) (w:World),MonoInv ops Φ a0 w0 L a w→Region.ready .any ops L = [] → Q .normal a w:=by
  intro L a w hI hr
  have hall:∀ n i,i < n→i < ops.size→L.getD i false=true:=by
   intro n
   induction n with
   | zero => intro i h;omega
   | succ n ih =>
    intro i h hi
    by_cases hin:i < n
    ·exact ih i hin hi
    ·have e:i=n:=by omega
     subst e
     cases hL:L.getD i false
     ·exfalso
      have ho:ops[i]? = some ops[i]:=Array.getElem?_eq_getElem hi
      obtain ⟨_,_,h3⟩:=monoOk_spec hok ho
      have:i ∈ Region.ready .any ops L:=mem_ready.2 ⟨by
       have hs:i < L.size:=by rw [hI.size];exact hi
       rw [Array.getD_eq_getD_getElem?,Array.getElem?_eq_getElem hs] at hL ⊢
       exact hL,ops[i],ho,fun e he hb => by
       have hd:depB ops i e.on=true:=by
        unfold depB
        rw [ho]
        exact Array.any_eq_true'.2 ⟨e,he,by simp [hb]⟩
       have hlt:=h3 _ hd
       exact ih e.on hlt (by omega)⟩
      rw [hr] at this
      cases this
     ·rfl
  refine hend a w hI.ext (fun i o d ho hd => hI.vals i o d ho hd (hall ops.size i (Array.getElem?_eq_some_iff.1 ho).1 (Array.getElem?_eq_some_iff.1 ho).1)) (fun t ht => hI.rest t (fun j hj => by rw [ht] at hj;cases hj)) hI.defers hI.tsize
 intro fuel
 induction fuel with
 | zero =>
  intro L a w hI hc
  have hr:Region.ready .any ops L = []:=by
   apply List.eq_nil_iff_forall_not_mem.2
   intro i hi
   obtain ⟨h0,o,ho,_⟩:=mem_ready.1 hi
   have hlt:i < ops.size:=(Array.getElem?_eq_some_iff.1 ho).1
   have h0':L.getD i false=false:=by
    have hs:i < L.size:=by rw [hI.size];exact hlt
    rw [Array.getD_eq_getD_getElem?,Array.getElem?_eq_getElem hs] at h0 ⊢
    exact h0
   have:0 < (List.range ops.size).countP (fun i => !L.getD i false):=List.countP_pos_iff.2 ⟨i,List.mem_range.2 hlt,by simp [h0']⟩
   omega
  exact ⟨hr,hrdy L a w hI hr⟩
 | succ fuel ih =>
  intro L a w hI hc
  refine ⟨hrdy L a w hI,fun i hi => ?_⟩
  obtain ⟨h0,o,ho,hdeps⟩:=mem_ready.1 hi
  have hlt:i < ops.size:=(Array.getElem?_eq_some_iff.1 ho).1
  have hls:i < L.size:=by rw [hI.size];exact hlt
  have h0':L.getD i false=false:=by
   rw [Array.getD_eq_getD_getElem?,Array.getElem?_eq_getElem hls] at h0 ⊢
   exact h0
  obtain ⟨hd,hl,hlex⟩:=monoOk_spec hok ho
  have hdl:∀ j,depB ops i j=true→L.getD j false=true:=by
   intro j hj
   unfold depB at hj
   rw [ho] at hj
   obtain ⟨e,he,hb⟩:=Array.any_eq_true'.1 hj
   simp only [Bool.and_eq_true,beq_iff_eq] at hb
   rw [← hb.2];exact hdeps e he hb.1
  have hgood:GoodAct ops Φ a0 i o a w:=by
   intro t ht
   cases hw:wr ops t with
   | none => exact hI.rest t (fun j hj => by rw [hw] at hj;cases hj)
   | some j =>
    simp only []
    have hj:=List.find?_some hw
    simp only [beq_iff_eq] at hj
    split
    ·rename_i hdep
     cases hoj:ops[j]? with
     | none => rw [hoj] at hj;cases hj
     | some oj =>
      rw [hoj] at hj
      exact hI.vals j oj t hoj hj (hdl j hdep)
    ·rename_i hdep
     refine hI.rest t (fun j' hj' => ?_)
     rw [hw] at hj'
     cases hj'
     rcases hl t ht j hw with h | h
     ·exact absurd h hdep
     ·cases hLj:L.getD j false
      ·rfl
      ·have:=hI.closed j hLj i h
       rw [h0'] at this;cases this
  have hstep:∀ v w',Below w.heap.size w w' → Φ i v w' → MonoInv ops Φ a0 w0 (L.setIfInBounds i true) (a.put o.dst v) w':=by
   intro v w' hb hv
   have hget:∀ k,(L.setIfInBounds i true).getD k false=true ↔ (k=i ∨ L.getD k false=true):=by
    intro k
    by_cases hk:k=i
    ·subst hk
     simp [Array.getD_eq_getD_getElem?,hls]
    ·rw [getD_set_ne false (fun e => hk e.symm)]
     simp [hk]
   have hput:∀ t,(a.put o.dst v).tmps.getD t undef=if o.dst=some t then v else a.tmps.getD t undef:=by
    intro t
    cases hdst:o.dst with
    | none => simp [Act.put]
    | some d =>
     simp only [Act.put,Option.some.injEq]
     have hdsz:d < a.tmps.size:=by rw [hI.tsize];exact (hd d hdst).1
     by_cases h:d=t
     ·subst h
      simp [Array.getD_eq_getD_getElem?,hdsz]
     ·simp [Array.getD_eq_getD_getElem?,h]
   refine ⟨by simp [hI.size],hI.ext.trans (hb.mono hI.ext.size),?_,?_,?_,?_,?_⟩
   ·intro k hk j hj
    rw [hget] at hk ⊢
    rcases hk with rfl | hk
    ·exact .inr (hdl j hj)
    ·exact .inr (hI.closed k hk j hj)
   ·intro k ok d hok' hdk hk
    rw [hget] at hk
    rw [hput]
    rcases hk with rfl | hk
    ·rw [ho] at hok';cases hok'
     rw [if_pos hdk];exact hv
    ·have hne:o.dst ≠ some d:=by
      intro e
      have h1:=(hd d e).2
      have h2:=((monoOk_spec hok hok').1 d hdk).2
      rw [h1] at h2
      cases h2
      rw [h0'] at hk;cases hk
     rw [if_neg hne]
     exact hst k _ _ _ (hI.vals k ok d hok' hdk hk) hb
   ·intro t ht
    rw [hput]
    have hne:o.dst ≠ some t:=by
     intro e
     have:=ht i (hd t e).2
     have h2:=(hget i).2 (.inl rfl)
     rw [this] at h2;cases h2
    rw [if_neg hne]
    refine hI.rest t (fun j hj => ?_)
    cases hLj:L.getD j false
    ·rfl
    ·have:=ht j hj
     rw [(hget j).2 (.inr hLj)] at this;cases this
   ·cases o.dst <;> exact hI.defers
   ·rw [← hI.tsize];cases o.dst <;> simp [Act.put]
  have hcount:(List.range ops.size).countP (fun k => !(L.setIfInBounds i true).getD k false) ≤ fuel:=by
   have:=countP_lt (l:=List.range ops.size) (p:=fun k => !L.getD k false) (q:=fun k => !(L.setIfInBounds i true).getD k false)
    (fun k _ hk => by
     by_cases hki:k=i
     ·subst hki;simp [h0']
     ·rw [getD_set_ne false (fun e => hki e.symm)] at hk;exact hk)
    ⟨i,List.mem_range.2 hlt,by simp [h0'],by simp [Array.getD_eq_getD_getElem?,hls]⟩
   omega
  have hg:=hop i o ho a w hI.ext hgood
  unfold wpOpIn
  rw [ho]
  simp only []
  split at hg
  ·rename_i hw
   rw [if_pos hw]
   refine Oper.wpIn_mono ?_ hg
   rintro a' w' ⟨v,rfl,hb,hv⟩
   exact ih _ _ _ (hstep v w' hb hv) hcount
  ·rename_i hw
   rw [if_neg hw]
   exact ⟨fun _ _ => trivial,ih _ _ _ (hstep undef w (Below.refl _ _) hg) hcount⟩
theorem monoIn_any_last {a0:Act} {w0:World} (Φ:Nat→Value→World→Prop) (hok:monoOk ops a0.tmps.size=true) (last:Nat) (hn:ops.size=last+1) (hcov:coverB ops last=true)
  (hst:∀ i v w w',Φ i v w→Below w.heap.size w w' → Φ i v w')
  (hop:∀ i o,i < last→ops[i]? = some o→∀ a w,Below w0.heap.size w0 w→GoodAct ops Φ a0 i o a w →
   if Region.wanted o (yielded ops a.tmps)=true then Oper.wpIn (Fence.wide.inRound lr) n P o a w (fun a' w' => ∃ v,a' = a.put o.dst v∧Below w.heap.size w w' ∧ Φ i v w') Q else Φ i undef w)
  (hend:∀ a w,Below w0.heap.size w0 w→(∀ i o d,i < last→ops[i]? = some o→o.dst=some d→Φ i (a.tmps.getD d undef) w)→(∀ t,(∀ j,wr ops t=some j→j=last)→a.tmps.getD t undef=a0.tmps.getD t undef)→a.defers=a0.defers→a.tmps.size=a0.tmps.size→wpOpIn (Fence.wide.inRound lr) n P ops Q last (Q .normal) a w) :
  ∀ (fuel:Nat) (L:Array Bool) (a:Act) (w:World),MonoInv ops Φ a0 w0 L a w→L.getD last false=false→(List.range ops.size).countP (fun i => !L.getD i false) ≤ fuel→wpAnyIn (Fence.wide.inRound lr) n P .any ops Q fuel L a w:=by
 have hrdy:∀ (L:Array Bool) (a:Act) (w:World),MonoInv ops Φ a0 w0 L a w→L.getD last false=false→Region.ready .any ops L = [] → False:=by
  intro L a w hI hlast hr
  have hall:∀ n i,i < n→i < ops.size→L.getD i false=true:=by
   intro n
   induction n with
   | zero => intro i h;omega
   | succ n ih =>
    intro i h hi
    by_cases hin:i < n
    ·exact ih i hin hi
    ·have e:i=n:=by omega
     subst e
     cases hL:L.getD i false
     ·exfalso
      have ho:ops[i]? = some ops[i]:=Array.getElem?_eq_getElem hi
      obtain ⟨_,_,h3⟩:=monoOk_spec hok ho
      have:i ∈ Region.ready .any ops L:=mem_ready.2 ⟨by
       have hs:i < L.size:=by rw [hI.size];exact hi
       rw [Array.getD_eq_getD_getElem?,Array.getElem?_eq_getElem hs] at hL ⊢
       exact hL,ops[i],ho,fun e he hb => by
       have hd:depB ops i e.on=true:=by
        unfold depB
        rw [ho]
        exact Array.any_eq_true'.2 ⟨e,he,by simp [hb]⟩
       have hlt:=h3 _ hd
       exact ih e.on hlt (by omega)⟩
      rw [hr] at this
      cases this
     ·rfl
  have:=hall ops.size last (by omega) (by omega)
  rw [hlast] at this;cases this
 have hcl:∀ (L:Array Bool) (a:Act) (w:World),MonoInv ops Φ a0 w0 L a w→(∀ j,depB ops last j=true→L.getD j false=true)→∀ n i,last ≤ i+n→i < last→L.getD i false=true:=by
  intro L a w hI hdl n
  induction n with
  | zero => intro i h hi;omega
  | succ n ih =>
   intro i h hi
   unfold coverB at hcov
   have h1:=List.all_eq_true.1 hcov i (List.mem_range.2 hi)
   obtain ⟨k,hk,hd⟩:=List.any_eq_true.1 h1
   have hk':k < last+1:=List.mem_range.1 hk
   by_cases hkl:k=last
   ·subst hkl;exact hdl i hd
   ·have hlt:i < k:=by
     unfold depB at hd
     cases hok':ops[k]? with
     | none => rw [hok'] at hd;cases hd
     | some ok =>
      obtain ⟨_,_,h3⟩:=monoOk_spec hok hok'
      exact h3 i (by unfold depB;exact hd)
    exact hI.closed k (ih k (by omega) (by omega)) i hd
 intro fuel
 induction fuel with
 | zero =>
  intro L a w hI hlast hc
  have:0 < (List.range ops.size).countP (fun i => !L.getD i false):=List.countP_pos_iff.2 ⟨last,List.mem_range.2 (by omega),by simp only [hlast];rfl⟩
  omega
 | succ fuel ih =>
  intro L a w hI hlast hc
  refine ⟨fun h => (hrdy L a w hI hlast h).elim,fun i hi => ?_⟩
  obtain ⟨h0,o,ho,hdeps⟩:=mem_ready.1 hi
  have hlt:i < ops.size:=(Array.getElem?_eq_some_iff.1 ho).1
  have hls:i < L.size:=by rw [hI.size];exact hlt
  have h0':L.getD i false=false:=by
   rw [Array.getD_eq_getD_getElem?,Array.getElem?_eq_getElem hls] at h0 ⊢
   exact h0
  obtain ⟨hd,hl,hlex⟩:=monoOk_spec hok ho
  have hdl:∀ j,depB ops i j=true→L.getD j false=true:=by
   intro j hj
   unfold depB at hj
   rw [ho] at hj
   obtain ⟨e,he,hb⟩:=Array.any_eq_true'.1 hj
   simp only [Bool.and_eq_true,beq_iff_eq] at hb
   rw [← hb.2];exact hdeps e he hb.1
  by_cases hil:i=last
  ·subst hil
   have hall:=hcl L a w hI hdl i
   refine wpOpIn_mono ?_ (hend a w hI.ext (fun j o' d hj ho' hd' => hI.vals j o' d ho' hd' (hall j (by omega) hj)) (fun t ht => hI.rest t (fun j hj => by rw [ht j hj];exact hlast)) hI.defers hI.tsize)
   intro a' w' hq
   refine wpAnyIn_done ?_ hq _
   apply List.eq_nil_iff_forall_not_mem.2
   intro j hj
   obtain ⟨hj0,oj,hoj,_⟩:=mem_ready.1 hj
   have hjlt:j < ops.size:=(Array.getElem?_eq_some_iff.1 hoj).1
   have hls':j < L.size:=by rw [hI.size];exact hjlt
   have hj1:(L.setIfInBounds i true).getD j false=false:=by
    rw [Array.getD_eq_getD_getElem?,Array.getElem?_eq_getElem (by simpa using hls')] at hj0 ⊢
    exact hj0
   by_cases hji:j=i
   ·subst hji
    simp [Array.getD_eq_getD_getElem?,hls] at hj1
   ·rw [getD_set_ne false (fun e => hji e.symm),hall j (by omega) (by omega)] at hj1
    cases hj1
  have hlt':i < last:=by omega
  have hgood:GoodAct ops Φ a0 i o a w:=by
   intro t ht
   cases hw:wr ops t with
   | none => exact hI.rest t (fun j hj => by rw [hw] at hj;cases hj)
   | some j =>
    simp only []
    have hj:=List.find?_some hw
    simp only [beq_iff_eq] at hj
    split
    ·rename_i hdep
     cases hoj:ops[j]? with
     | none => rw [hoj] at hj;cases hj
     | some oj =>
      rw [hoj] at hj
      exact hI.vals j oj t hoj hj (hdl j hdep)
    ·rename_i hdep
     refine hI.rest t (fun j' hj' => ?_)
     rw [hw] at hj'
     cases hj'
     rcases hl t ht j hw with h | h
     ·exact absurd h hdep
     ·cases hLj:L.getD j false
      ·rfl
      ·have:=hI.closed j hLj i h
       rw [h0'] at this;cases this
  have hstep:∀ v w',Below w.heap.size w w' → Φ i v w' → MonoInv ops Φ a0 w0 (L.setIfInBounds i true) (a.put o.dst v) w':=by
   intro v w' hb hv
   have hget:∀ k,(L.setIfInBounds i true).getD k false=true ↔ (k=i ∨ L.getD k false=true):=by
    intro k
    by_cases hk:k=i
    ·subst hk
     simp [Array.getD_eq_getD_getElem?,hls]
    ·rw [getD_set_ne false (fun e => hk e.symm)]
     simp [hk]
   have hput:∀ t,(a.put o.dst v).tmps.getD t undef=if o.dst=some t then v else a.tmps.getD t undef:=by
    intro t
    cases hdst:o.dst with
    | none => simp [Act.put]
    | some d =>
     simp only [Act.put,Option.some.injEq]
     have hdsz:d < a.tmps.size:=by rw [hI.tsize];exact (hd d hdst).1
     by_cases h:d=t
     ·subst h
      simp [Array.getD_eq_getD_getElem?,hdsz]
     ·simp [Array.getD_eq_getD_getElem?,h]
   refine ⟨by simp [hI.size],hI.ext.trans (hb.mono hI.ext.size),?_,?_,?_,?_,?_⟩
   ·intro k hk j hj
    rw [hget] at hk ⊢
    rcases hk with rfl | hk
    ·exact .inr (hdl j hj)
    ·exact .inr (hI.closed k hk j hj)
   ·intro k ok d hok' hdk hk
    rw [hget] at hk
    rw [hput]
    rcases hk with rfl | hk
    ·rw [ho] at hok';cases hok'
     rw [if_pos hdk];exact hv
    ·have hne:o.dst ≠ some d:=by
      intro e
      have h1:=(hd d e).2
      have h2:=((monoOk_spec hok hok').1 d hdk).2
      rw [h1] at h2
      cases h2
      rw [h0'] at hk;cases hk
     rw [if_neg hne]
     exact hst k _ _ _ (hI.vals k ok d hok' hdk hk) hb
   ·intro t ht
    rw [hput]
    have hne:o.dst ≠ some t:=by
     intro e
     have:=ht i (hd t e).2
     have h2:=(hget i).2 (.inl rfl)
     rw [this] at h2;cases h2
    rw [if_neg hne]
    refine hI.rest t (fun j hj => ?_)
    cases hLj:L.getD j false
    ·rfl
    ·have:=ht j hj
     rw [(hget j).2 (.inr hLj)] at this;cases this
   ·cases o.dst <;> exact hI.defers
   ·rw [← hI.tsize];cases o.dst <;> simp [Act.put]
  have hcount:(List.range ops.size).countP (fun k => !(L.setIfInBounds i true).getD k false) ≤ fuel:=by
   have:=countP_lt (l:=List.range ops.size) (p:=fun k => !L.getD k false) (q:=fun k => !(L.setIfInBounds i true).getD k false)
    (fun k _ hk => by
     by_cases hki:k=i
     ·subst hki;simp [h0']
     ·rw [getD_set_ne false (fun e => hki e.symm)] at hk;exact hk)
    ⟨i,List.mem_range.2 hlt,by simp [h0'],by simp [Array.getD_eq_getD_getElem?,hls]⟩
   omega
  have hlast':(L.setIfInBounds i true).getD last false=false:=by rw [getD_set_ne false hil];exact hlast
  have hg:=hop i o hlt' ho a w hI.ext hgood
  unfold wpOpIn
  rw [ho]
  simp only []
  split at hg
  ·rename_i hw
   rw [if_pos hw]
   refine Oper.wpIn_mono ?_ hg
   rintro a' w' ⟨v,rfl,hb,hv⟩
   exact ih _ _ _ (hstep v w' hb hv) hlast' hcount
  ·rename_i hw
   rw [if_neg hw]
   exact ⟨fun _ _ => trivial,ih _ _ _ (hstep undef w (Below.refl _ _) hg) hlast' hcount⟩
theorem wpIn_region_mono {id:Nat} {a0:Act} {w0:World} (hm:P.follows .mixedOrders=true) (Φ:Nat→Value→World→Prop) (hok:monoOk ops a0.tmps.size=true)
  (hst:∀ i v w w',Φ i v w→Below w.heap.size w w' → Φ i v w')
  (hop:∀ i o,ops[i]? = some o→∀ a w,Below w0.heap.size w0 w→GoodAct ops Φ a0 i o a w →
   if Region.wanted o (yielded ops a.tmps)=true then Oper.wpIn (Fence.wide.inRound lr) n P o a w (fun a' w' => ∃ v,a' = a.put o.dst v∧Below w.heap.size w w' ∧ Φ i v w') Q else Φ i undef w)
  (hend:∀ a w,Below w0.heap.size w0 w→(∀ i o d,ops[i]? = some o→o.dst=some d→Φ i (a.tmps.getD d undef) w)→(∀ t,wr ops t=none→a.tmps.getD t undef=a0.tmps.getD t undef)→a.defers=a0.defers→a.tmps.size=a0.tmps.size→Q .normal a w) :
  (Code.region id ops true).wpIn (Fence.wide.inRound lr) n P Q a0 w0:=by
 refine wpIn_region_any hm (monoIn_any (w0:=w0) Φ hok hst hop hend ops.size _ a0 _ ⟨by simp,(Below.refl _ _).drew,?_,?_,fun _ _ => rfl,rfl,rfl⟩ ?_)
 ·intro k hk
  simp [Array.getD_eq_getD_getElem?] at hk
  rcases h:(Array.replicate ops.size false)[k]? with _ | b <;> simp [h] at hk
  subst hk
  have:=Array.getElem?_eq_some_iff.1 h
  obtain ⟨h1,h2⟩:=this
  simp at h2
 ·intro i o d ho hd hk
  exfalso
  simp [Array.getD_eq_getD_getElem?] at hk
  rcases h:(Array.replicate ops.size false)[i]? with _ | b <;> simp [h] at hk
  subst hk
  have:=Array.getElem?_eq_some_iff.1 h
  obtain ⟨h1,h2⟩:=this
  simp at h2
 ·exact Nat.le_trans List.countP_le_length (by simp)
def MonoOpsIn (lr n:Nat) (P:Program) (ops:Array Oper) (Q:Exit→Act→World→Prop) (L:List (Value→World→Prop)) (a0:Act) (w0:World):List Oper→List (List (Tmp × Option Nat))→List (Value→World→Prop)→Prop
 | o :: os,pl :: pls,φ :: φs => (∀ a w,Below w0.heap.size w0 w→PlanFacts L a0 a w pl →
   if Region.wanted o (yielded ops a.tmps)=true then Oper.wpIn (Fence.wide.inRound lr) n P o a w (fun a' w' => ∃ v,a' = a.put o.dst v∧Below w.heap.size w w' ∧ φ v w') Q else φ undef w)∧MonoOpsIn lr n P ops Q L a0 w0 os pls φs
 | [],_,_ => True
 | _,_,_ => False
theorem monoOpsIn_get {L:List (Value→World→Prop)} {a0:Act} {w0:World}:∀ {os:List Oper} {pls:List (List (Tmp × Option Nat))} {φs:List (Value→World→Prop)},MonoOpsIn lr n P ops Q L a0 w0 os pls φs →
  ∀ (i:Nat) o pl,os[i]? = some o→pls[i]? = some pl→∀ a w,Below w0.heap.size w0 w→PlanFacts L a0 a w pl →
   if Region.wanted o (yielded ops a.tmps)=true then Oper.wpIn (Fence.wide.inRound lr) n P o a w (fun a' w' => ∃ v,a' = a.put o.dst v∧Below w.heap.size w w' ∧ φs.getD i (fun _ _ => True) v w') Q else φs.getD i (fun _ _ => True) undef w
 | [],_,_,_,i,o,pl,ho,_ => by simp at ho
 | o :: os,[],_,h,_,_,_,_,_ => h.elim
 | o :: os,pl :: pls,[],h,_,_,_,_,_ => h.elim
 | o :: os,pl :: pls,φ :: φs,h,0,o',pl',ho,hp => by
  simp at ho hp;subst ho;subst hp
  exact h.1
 | o :: os,pl :: pls,φ :: φs,h,i+1,o',pl',ho,hp => monoOpsIn_get h.2 i o' pl' (by simpa using ho) (by simpa using hp)
theorem wpIn_region_words {id:Nat} {a0:Act} {w0:World} (hm:P.follows .mixedOrders=true) (L:List (Value→World→Prop)) (plan:List (List (Tmp × Option Nat))) (hok:monoOk ops a0.tmps.size=true)
  (hplan:planOf ops=plan) (hst:AllStable L) (hop:MonoOpsIn lr n P ops Q L a0 w0 ops.toList plan L)
  (hend:∀ a w,Below w0.heap.size w0 w→(∀ i o d,ops[i]? = some o→o.dst=some d→L.getD i (fun _ _ => True) (a.tmps.getD d undef) w)→(∀ t,wr ops t=none→a.tmps.getD t undef=a0.tmps.getD t undef)→a.defers=a0.defers→a.tmps.size=a0.tmps.size→Q .normal a w) :
  (Code.region id ops true).wpIn (Fence.wide.inRound lr) n P Q a0 w0:=by
 refine wpIn_region_mono hm (fun i => L.getD i (fun _ _ => True)) hok (fun i => allStable_get hst i) ?_ hend
 intro i o ho a w hb hg
 have hlt:i < ops.size:=(Array.getElem?_eq_some_iff.1 ho).1
 have hpl:plan[i]? = some ((o.looksAt ops).map fun t => (t,match wr ops t with
    | some j => if depB ops i j=true then some j else none
    | none => none)):=by
  rw [← hplan]
  unfold planOf
  rw [List.getElem?_map,List.getElem?_range hlt,Option.map_some,ho]
  rfl
 exact monoOpsIn_get hop i o _ (by simpa using ho) hpl a w hb (planFacts_of rfl (o:=o) _ hg)
theorem wpIn_region_frame {id:Nat} {a0:Act} {w0:World} (hm:P.follows .mixedOrders=true) (L:List (Value→World→Prop)) (plan:List (List (Tmp × Option Nat))) (D:List (Option Tmp)) (M:List Bool)
  (hok:monoOk ops a0.tmps.size=true) (hplan:planOf ops=plan) (hD:dstsOf ops=D) (hM:maskOf ops a0.tmps.size=M) (hst:AllStable L) (hop:MonoOpsIn lr n P ops Q L a0 w0 ops.toList plan L)
  (hend:∀ f w,Below w0.heap.size w0 w→AllWords f w D L→Q .normal { tmps:=(mergeT M a0.tmps.toList 0 f).toArray,defers:=a0.defers } w) :
  (Code.region id ops true).wpIn (Fence.wide.inRound lr) n P Q a0 w0:=by
 refine wpIn_region_words hm L plan hok hplan hst hop ?_
 intro a w hb hv hr hd hs
 have h:=hend (fun t => a.tmps.getD t undef) w hb (by rw [← hD];exact allWords_of (fun i o d ho hdd => hv i o d (by simpa using ho) hdd))
 have e:mergeT M a0.tmps.toList 0 (fun t => a.tmps.getD t undef)=a.tmps.toList:=by
  refine mergeT_eq _ _ _ _ _ (by rw [← hM];simp [maskOf]) (by simpa using hs) ?_ ?_
  ·intro j hj _
   simp [Array.getD_eq_getD_getElem?,List.getD_eq_getElem?_getD]
  ·intro j hj hb
   rw [← hM] at hb
   have hj':j < a0.tmps.size:=by rw [← hs];simpa using hj
   have hw:wr ops j=none:=by
    unfold maskOf at hb
    simp [List.getD_eq_getElem?_getD,List.getElem?_map,List.getElem?_range hj'] at hb
    exact hb
   have:=hr j hw
   simpa [Array.getD_eq_getD_getElem?,List.getD_eq_getElem?_getD] using this
 rw [e,← hd] at h
 exact h
theorem wpIn_region_last {id:Nat} {a0:Act} {w0:World} (hm:P.follows .mixedOrders=true) (L:List (Value→World→Prop)) (plan:List (List (Tmp × Option Nat))) (D:List (Option Tmp)) (M:List Bool) (last:Nat) (ol:Oper) (hol:ops[last]? = some ol) (hgd:ol.guard=none)
  (hn:ops.size=last+1) (hcov:coverB ops last=true)
  (hok:monoOk ops a0.tmps.size=true) (hplan:planOf ops=plan) (hD:dstsOf ops=D) (hM:maskOf ops a0.tmps.size=M) (hst:AllStable L) (hop:MonoOpsIn lr n P ops Q L a0 w0 (ops.toList.take last) plan L)
  (hend:∀ f w,Below w0.heap.size w0 w→AllWords f w (D.take last) L→Oper.wpIn (Fence.wide.inRound lr) n P ol { tmps:=(mergeT M a0.tmps.toList 0 f).toArray,defers:=a0.defers } w (Q .normal) Q) :
  (Code.region id ops true).wpIn (Fence.wide.inRound lr) n P Q a0 w0:=by
 refine wpIn_region_any hm (monoIn_any_last (w0:=w0) (fun i => L.getD i (fun _ _ => True)) hok last hn hcov (fun i => allStable_get hst i) ?_ ?_ ops.size _ a0 _ ⟨by simp,(Below.refl _ _).drew,?_,?_,fun _ _ => rfl,rfl,rfl⟩ ?_ ?_)
 ·intro i o hil ho a w hb hg
  have hlt:i < ops.size:=(Array.getElem?_eq_some_iff.1 ho).1
  have hpl:plan[i]? = some ((o.looksAt ops).map fun t => (t,match wr ops t with
     | some j => if depB ops i j=true then some j else none
     | none => none)):=by
   rw [← hplan]
   unfold planOf
   rw [List.getElem?_map,List.getElem?_range hlt,Option.map_some,ho]
   rfl
  exact monoOpsIn_get hop i o _ (by rw [List.getElem?_take,if_pos hil];simpa using ho) hpl a w hb (planFacts_of rfl (o:=o) _ hg)
 ·intro a w hb hv hr hd hs
  have h:=hend (fun t => a.tmps.getD t undef) w hb (by
   rw [← hD,dstsOf,← List.map_take]
   exact allWords_of (fun i o d ho hdd => by
    rw [List.getElem?_take] at ho
    split at ho
    ·rename_i hil
     exact hv i o d hil (by simpa using ho) hdd
    ·cases ho))
  have e:mergeT M a0.tmps.toList 0 (fun t => a.tmps.getD t undef)=a.tmps.toList:=by
   refine mergeT_eq _ _ _ _ _ (by rw [← hM];simp [maskOf]) (by simpa using hs) ?_ ?_
   ·intro j hj _
    simp [Array.getD_eq_getD_getElem?,List.getD_eq_getElem?_getD]
   ·intro j hj hb
    rw [← hM] at hb
    have hj':j < a0.tmps.size:=by rw [← hs];simpa using hj
    have hw:wr ops j=none:=by
     unfold maskOf at hb
     simp [List.getD_eq_getElem?_getD,List.getElem?_map,List.getElem?_range hj'] at hb
     exact hb
    have:=hr j (fun k hk => by rw [hw] at hk;cases hk)
    simpa [Array.getD_eq_getD_getElem?,List.getD_eq_getElem?_getD] using this
  rw [e,← hd] at h
  unfold wpOpIn
  rw [hol]
  simp only []
  rw [if_pos (by simp [Region.wanted,hgd])]
  exact h
 ·intro k hk
  simp [Array.getD_eq_getD_getElem?] at hk
  rcases h:(Array.replicate ops.size false)[k]? with _ | b <;> simp [h] at hk
  subst hk
  obtain ⟨h1,h2⟩:=Array.getElem?_eq_some_iff.1 h
  simp at h2
 ·intro i o d ho hd hk
  exfalso
  simp [Array.getD_eq_getD_getElem?] at hk
  rcases h:(Array.replicate ops.size false)[i]? with _ | b <;> simp [h] at hk
  subst hk
  obtain ⟨h1,h2⟩:=Array.getElem?_eq_some_iff.1 h
  simp at h2
 ·simp [Array.getD_eq_getD_getElem?,hn]
 ·exact Nat.le_trans List.countP_le_length (by simp)
end
end Go.Proofs.YtamafdcnbcoegabGreat
namespace Go.Proofs.YtamafdcnbcoegabGreat
open Go.RowKit
attribute [local go_sem] Oper.semAt_some
def OneF (B:Nat) (FB:List UInt8) (v:Value) (z:World):Prop:=∃ g vb,v = .slice (some ⟨g,0,none⟩) 1 1∧B ≤ g∧z.heap[g]? = some (.cells #[vb] 48 (0,0))∧Owns B z vb FB
theorem owns_far {B:Nat} {w z:World} {v:Value} {l:List UInt8} {E:Nat→Prop} (h:Owns B w v l) (hF:Far E w z) (hE:∀ k,E k→k < B):Owns B z v l :=
 ownsRow_keep h (fun k hk => hF.rest k (World.ownsRow.lt h k hk).2 (fun e => by have:=hE k e;have:=(World.ownsRow.lt h k hk).1;omega))
theorem owns_below {B:Nat} {w z:World} {v:Value} {l:List UInt8} (h:Owns B w v l) (hb:Below w.heap.size w z):Owns B z v l :=
 ownsRow_keep h (fun k hk => hb.block k (World.ownsRow.lt h k hk).2)
theorem stable_owns (B:Nat) (l:List UInt8):Stable (fun v z => Owns B z v l):=fun _ _ _ h hb => owns_below h hb
theorem stableF_owns {B:Nat} {l:List UInt8} {E:Nat→Prop} (hE:∀ k,E k→k < B):StableF E (fun v z => Owns B z v l):=fun _ _ _ h hF => owns_far h hF hE
theorem stable_oneF (B:Nat) (FB:List UInt8):Stable (OneF B FB):=fun _ _ _ h hb => by
 obtain ⟨g,vb,e,h1,h2,h3⟩:=h
 exact ⟨g,vb,e,h1,(hb.block g (lt_of_block h2)).trans h2,owns_below h3 hb⟩
theorem stableF_oneF {B:Nat} {FB:List UInt8} {E:Nat→Prop} (hE:∀ k,E k→k < B):StableF E (OneF B FB):=fun _ _ _ h hF => by
 obtain ⟨g,vb,e,h1,h2,h3⟩:=h
 exact ⟨g,vb,e,h1,hF.blk h2 (fun e => by have:=hE _ e;omega),owns_far h3 hF hE⟩
def RowF (B b0:Nat) (lv:Value) (fs:List Value) (FB:List UInt8) (v:Value) (z:World):Prop:=∃ vb,z.ownsRow b0 48 1 v (fs.length+1) (fs ++ [vb])∧Owns B z vb FB∧∀ k,v.ownBlock=some k→lv.ownBlock=some k ∨ B ≤ k
theorem stable_rowF (B b0:Nat) (lv:Value) (fs:List Value) (FB:List UInt8):Stable (RowF B b0 lv fs FB):=fun _ _ _ h hb => by
 obtain ⟨vb,h1,h2,h3⟩:=h
 exact ⟨vb,ownsRow_keep h1 (fun k hk => hb.block k (World.ownsRow.lt h1 k hk).2),owns_below h2 hb,h3⟩
theorem stableF_rowF {B b0:Nat} {lv:Value} {fs:List Value} {FB:List UInt8} {E:Nat→Prop} (hE:∀ k,E k→k < B∧k < b0):StableF E (RowF B b0 lv fs FB):=fun _ _ _ h hF => by
 obtain ⟨vb,h1,h2,h3⟩:=h
 exact ⟨vb,ownsRow_keep h1 (fun k hk => hF.rest k (World.ownsRow.lt h1 k hk).2 (fun e => by have:=(hE k e).2;have:=(World.ownsRow.lt h1 k hk).1;omega)),owns_far h2 hF (fun k e => (hE k e).1),h3⟩
theorem stepIn_app_own {ops:Array Oper} {o:Oper} {a:Act} {K:Act→World→Prop} {Q:Exit→Act→World→Prop} {E:Prop} {w:World} {lr n0:Nat} (hgd:o.guard=none) (s x:Operand) (t:TypeId) (ho:o.op = .call { callee:=.builtin .append,args:=#[s,x],argTypes:=#[t,t] })
  (base:Nat) (e:TypeId) (z:Value) (size bytes:Nat) (ht:Tryz.prog.underlying t=some (.slice e)) (hinfo:(Tryz.prog.info? e).map (fun i => (i.zero,i.size,i.bytes))=some (some z,size,bytes)) (hzs:z.cells.size=size) (hsz:0 < size)
  (v:Value) (n:Nat) (xs:List Value) (hown:w.ownsRow base e size v n xs) (hs:a.eval s=v) (ad:Addr) (m c:Nat) (news:List Value) (hx:a.eval x = .slice (some ad) m c) (hl:news.length=m * size) (hnews:∀ j u,news[j]? = some u→w.cell? (ad.add j)=some u)
  (h1:∀ u ∈ news,u.oneCell' = true) (h63:n+m ≤ maxLen) (hb:(n+m) * bytes ≤ 140737488355328) (hbase:base ≤ w.heap.size)
  (h:∀ v' w',w'.ownsRow base e size v' (n+m) (xs ++ news)→w.grownBy w' v.ownBlock→(v'.ownBlock=v.ownBlock ∨ v'.ownBlock=some w.heap.size)→K (a.put o.dst v') w'):if Region.wanted o (yielded ops a.tmps)=true then o.wpIn (Fence.wide.inRound lr) n0 Tryz.prog a w K Q else E:=by
 rw [if_pos (by simp [Region.wanted,hgd])]
 obtain ⟨i0,hi,hz0,hz1,hz2⟩:=info_parts2 hinfo
 obtain ⟨v',w',hr,h2,h3,_,h5⟩:=run_append_own_at (P:=Tryz.prog) (w:=w) base t o.type e i0 z size bytes ht hi hz0 hz1 hz2 hzs hsz v n xs hown ad m c news hl hnews h1 h63 hb hbase
 unfold Oper.wpIn
 refine ⟨by simp [Oper.about,ho,resolve,Target.leads,Sem.run_pure],?_⟩
 rw [Oper.semAt_plain _ _ _ (by rw [ho];intro c hc';cases hc')]
 simp [execOp,ho,resolve,invoke,builtin,hs,hx,hr,Result.andThen]
 exact h v' w' h2 h3 h5
theorem sendTo_cnt (e s:Nat) (f:Mod.Flow) (t:Nat):∀ k,(Mod.sendTo e s f t k).2.length ≤ k
 | 0 => Nat.le_refl _
 | k+1 => by
  have ih:=sendTo_cnt e s f t k
  by_cases h:k < f.kept.length
  ·cases hd:Mod.due f t k f.kept[k].2 with
   | false => rw [sendTo_skip h hd];omega
   | true => rw [sendTo_send h hd];simp;omega
  ·rw [sendTo_over (by omega)];omega
section
variable {w W:World} {g0 p i:Nat} {c:Av} {st:Mod.Stv} {g:Nat→Nat} {free:List Nat} {sh:Nat→List (Nat × Value)} {pl:Nat→List Nat} {F:List ByteArray} {a:Mod.Ag} {tk k:Nat}
theorem SendI.due (h:SendI w g0 p i c st g free pl F (sentAg a i tk k) W) (hi:i < 3) (hk:k < (a.fl i).kept.length) (ht:(a.fl i).kept[k].2 ≤ 1000000000000) (htk:tk ≤ 1000000000000) :
  Calls Tryz.prog 106 #[.pointer (some ⟨p,4+i * 6,none⟩),.int .i64 ((a.fl i).base+1+k:Nat),.int .i64 tk] W fun r W' => r = .returned (.bool (Mod.due (a.fl i) tk k (a.fl i).kept[k].2))∧Below W.heap.size W W':=by
 obtain ⟨lv,fs,c',sh,m1,m2,m3,m4,_⟩:=h.mid
 have hj:k < ((sentAg a i tk k).fl i).kept.length:=by rw [sentAg_len];exact hk
 have hg:((sentAg a i tk k).fl i).kept[k] = (a.fl i).kept[k]:=by
  have:=sentAg_get (tk:=tk) hk
  rw [List.getElem?_eq_getElem hj] at this
  injection this
 have:=isDue_any m3 m4 hi k hj tk (a.fl i).kept[k].2 (by rw [hg]) ht htk
 rw [sentAg_due,sentAg_base] at this
 exact this
theorem SendI.tick (h:SendI w g0 p i c st g free pl F (sentAg a i tk k) W):W.cell? ⟨p,23,none⟩=some (.int .i64 a.ticks):=by
 obtain ⟨lv,fs,c',sh,m1,m2,m3,m4,_⟩:=h.mid
 rw [blk_cell m3.ks.blk,m3.ks.at']
 rfl
end
section
variable {w:World} {p:Nat} {g:Nat→Nat} {free:List Nat} {sh:Nat→List (Nat × Value)} {st:Mod.Stv} {c:Av} {a:Mod.Ag} {pl:Nat→List Nat}
set_option maxRecDepth 100000 in
set_option maxHeartbeats 4000000 in
theorem agSend_any (H:PaAt w p g a.ticks a.welcome a.fenced free sh st c) (O:OnAg a st.opening g free sh pl) (i:Nat) (hi3:i < 3) (ht0:a.ticks ≠ 0) (htk:a.ticks ≤ 1000000000000) (hbnd:(a.fl i).base+(a.fl i).kept.length < 4294967296) (hbod:∀ x ∈ (a.fl i).kept,x.1.size ≤ 20∧x.2 ≤ 1000000000000) :
  Calls Tryz.prog 68 #[ptrTo p,.int .i64 i] w fun r z => ∃ lv fs c' sh',r = .returned lv∧FramesOut w.heap.size z lv fs (sentFr a i a.ticks 4) (PaU p c')∧PaAt z p g a.ticks a.welcome a.fenced free sh' st c' ∧ OnAg (sentAg a i a.ticks 4) st.opening g free sh' pl∧Far (PaU p c) w z∧(∀ j,PaU p c' j→PaU p c j ∨ w.heap.size ≤ j)∧c'.s=c.s∧c'.rv=c.rv:=by
 have hpl:=lt_of_block H.ks.blk
 have hi0:(0:Int) ≤ (i:Int):=by omega
 have hi3':(i:Int) < 3:=by omega
 have HH:=hide (And.intro H O)
 clear H O
 unfold ptrTo at *
 refine callsIn_wide.1 (callsIn_of_wp_marks (n:=5) Tryz.func68 rfl trivial ?_ rfl)
 refine wpIn_wide.2 ?_
 simp only [Tryz.ntmps68,List.size_toArray,List.length_cons,List.length_nil,Nat.reduceAdd,Nat.reduceSub,Array.replicate_succ,Array.replicate_zero,List.push_toArray,List.append_toArray,List.nil_append,List.cons_append]
 go_upto_region 2 with fail
 obtain ⟨g0,hg0⟩:∃ g0,g0=w.heap.size:=⟨_,rfl⟩
 have HG0:=hide hg0
 rw [← hg0]
 refine wp_world (fun x => x.heap[g0]? = some (.cells #[.pointer (some ⟨p,0,none⟩)] 74 (0,0))∧x.heap[g0+1]? = some (.cells #[.int .i64 i] 3 (0,0))∧x.heap[g0+2]? = some (.cells #[.slice none 0 0] 32 (0,0))∧Below g0 w x∧x.heap.size=g0+3) ?_ ?_
 ·rw [hg0]
  have hA:=heap_alloc_new w (.cells #[.pointer (some ⟨p,0,none⟩)] 74)
  have hB:=heap_alloc_new (w.alloc (.cells #[.pointer (some ⟨p,0,none⟩)] 74)) (.cells #[.int .i64 i] 3)
  have hC:=heap_alloc_new ((w.alloc (.cells #[.pointer (some ⟨p,0,none⟩)] 74)).alloc (.cells #[.int .i64 i] 3)) (.cells #[.slice none 0 0] 32)
  simp only [World.size_alloc] at hB hC
  refine ⟨?_,?_,hC,((((Below.refl _ _).alloc (Nat.le_refl _) _).alloc (by simp) _).alloc (by simp;omega) _),by simp⟩
  ·rw [hao _ _ (by simp;omega),hao _ _ (by simp)];exact hA
  ·rw [hao _ _ (by simp)];exact hB
 clear hg0
 rintro x ⟨h0,h1,h2,hb,hsz⟩
 have c0:=blk_cell (i:=0) h0
 have c1:=blk_cell (i:=0) h1
 simp at c0 c1
 have HX:=hide (And.intro h0 (And.intro h1 (And.intro h2 (And.intro hb hsz))))
 have hx0:g0 < x.heap.size:=by omega
 have hx1:g0+1 < x.heap.size:=by omega
 clear h0 h1 h2 hb
 go_region
 go_upto_region 3 with fail
 refine wp_world (fun y => y.heap[g0]? = some (.cells #[.pointer (some ⟨p,0,none⟩)] 74 (0,0))∧y.heap[g0+1]? = some (.cells #[.int .i64 i] 3 (0,0))∧y.heap[g0+2]? = some (.cells #[.slice none 0 0] 32 (0,0))∧y.heap[g0+3]? = some (.cells #[.pointer (some ⟨p,4+i * 6,none⟩)] 193 (0,0))∧Below g0 w y∧y.heap.size=g0+4) ?_ ?_
 ·obtain ⟨h0,h1,h2,hb,hsz⟩:=unhide HX
  exact ⟨(hao _ _ (by omega)).trans h0,(hao _ _ (by omega)).trans h1,(hao _ _ (by omega)).trans h2,by have:=heap_alloc_new x (.cells #[.pointer (some ⟨p,4+i * 6,none⟩)] 193);rw [hsz] at this;exact this,(hb.alloc (by omega) _).drew,by show (x.alloc _).heap.size=_;simp;omega⟩
 clear HX c0 c1 hx0 hx1 hsz
 rintro y ⟨h0,h1,h2,h3,hb,hsz⟩
 have c3:=blk_cell (i:=0) h3
 simp at c3
 have HY:=hide (And.intro h0 (And.intro h1 (And.intro h2 (And.intro h3 (And.intro hb hsz)))))
 clear h0 h1 h2 h3 hb
 go_wp2_with (go_at_call 105;refine (firstA_any _ _ _ _).mono ?_;rintro e z ⟨rfl,hz⟩)
 obtain ⟨h0,h1,h2,h3,hb,_⟩:=unhide HY
 have hD:z.heap.size=g0+6:=by rw [hz];simp [boxed2,hsz]
 have hq:∀ k,k < g0+4→z.heap[k]? = y.heap[k]?:=fun k hk => by
  rw [hz]
  unfold boxed2
  rw [hao _ _ (by simp;omega),hao _ _ (by omega)]
 have hz4:z.heap[g0+4]? = some (.cells #[.pointer (some ⟨p,4+i * 6,none⟩)] 197 (0,0)):=by
  rw [hz]
  unfold boxed2
  rw [hao _ _ (by simp;omega),← hsz]
  exact heap_alloc_new _ _
 have hz5:z.heap[g0+5]? = some (.cells #[.int .i64 4] 3 (0,0)):=by
  rw [hz]
  unfold boxed2
  have:=heap_alloc_new (y.alloc (.cells #[.pointer (some ⟨p,4+i * 6,none⟩)] 197)) (.cells #[.int .i64 4] 3)
  rw [World.size_alloc,hsz] at this
  exact this
 have hbz:Below g0 w z:=by
  rw [hz]
  unfold boxed2
  exact (hb.alloc (by omega) _).alloc (by simp;omega) _
 have HZ:=hide (And.intro ((hq g0 (by omega)).trans h0) (And.intro ((hq (g0+1) (by omega)).trans h1) (And.intro ((hq (g0+2) (by omega)).trans h2) (And.intro ((hq (g0+3) (by omega)).trans h3) (And.intro hz4 (And.intro hz5 hbz))))))
 rw [← hz]
 clear h0 h1 h2 h3 hb hq hz4 hz5 hbz hz HY c3
 obtain ⟨tk,htk2⟩:∃ tk,tk=a.ticks:=⟨_,rfl⟩
 have HTK:=hide htk2
 have htk0:tk ≠ 0:=by omega
 have htkm:tk ≤ 1000000000000:=by omega
 clear htk2
 have hlen:(keptL (a.fl i).base (a.fl i).kept (pl i)).length=(a.fl i).kept.length:=keptL_length _ _ _ ((unhide HH).2.pn i hi3)
 refine wpIn_wide.1 (range_first (n:=5) (b:=g0+4) (p:=p) (o:=4+i * 6) (m:=4) (c.nv (i * 3)) (c.mv (i * 3)) (keptL (a.fl i).base (a.fl i).kept (pl i)) (keptL_are _ _ _) rfl rfl (fun k W => SendI w g0 p i c st g free pl (sentFr a i tk k) (sentAg a i tk k) W) ?_ ?_ ?_ ?_ ?_ ?_)
 ·intro k W W' h hS
  rw [hD] at hS
  exact h.same2 hS
 ·exact fun k W h => h.iterK hi3
 ·intro W hbW hszW
  obtain ⟨h0,h1,h2,h3,h4,h5,hbz⟩:=unhide HZ
  have hk:=fun k (hk:k < z.heap.size) => hbW.block k hk
  exact sendI_start (unhide HH).1 (unhide HH).2 (unhide HG0) (hbz.trans (hbW.mono (by omega))) ((hk _ (by omega)).trans h0) ((hk _ (by omega)).trans h1) ((hk _ (by omega)).trans h2) ((hk _ (by omega)).trans h3) ((hk _ (by omega)).trans h4) ((hk _ (by omega)).trans h5) (by omega)
 ·intro k hk W hk4 hI hle
  rw [hD] at hle ⊢
  have hkL:k < (a.fl i).kept.length:=by rw [hlen] at hk;exact hk
  have hget:(keptL (a.fl i).base (a.fl i).kept (pl i))[k] = ((a.fl i).base+1+k,recA (a.fl i).kept[k].1 ((pl i).getD k 0)):=by
   have h1:=keptL_get (a.fl i).base (a.fl i).kept (pl i) k ((unhide HH).2.pn i hi3) hkL
   rw [List.getElem?_eq_getElem hk] at h1
   injection h1
  rw [hget]
  obtain ⟨bk,hbk⟩:∃ bk,bk=(a.fl i).kept[k].1:=⟨_,rfl⟩
  obtain ⟨nk,hnk⟩:∃ nk,nk=(a.fl i).base+1+k:=⟨_,rfl⟩
  rw [← hbk,← hnk]
  generalize (pl i).getD k 0=q
  have HBK:=hide (And.intro hbk hnk)
  obtain ⟨g8,hg8⟩:∃ g8,g8=W.heap.size:=⟨_,rfl⟩
  have hg8':g0+8 ≤ g8:=by omega
  have HG8:=hide hg8
  have HI:=hide hI
  clear hbk hnk hget hI HZ hk
  unfold recA
  gi_wp2
  refine ⟨⟨hao _ _ (by omega),hao _ _ (by omega)⟩,?_⟩
  intro W2 hS
  rw [← hg8]
  have h8:W2.heap[g8]? = some (.cells #[.string bk,.int .i64 q] 140 (0,0)):=by
   rw [hS.rest g8 (by omega) (by omega),hg8]
   exact heap_alloc_new _ _
  have hI2:=((unhide HI).below ((Below.refl _ _).alloc (Nat.le_refl _) _)).same2 hS
  obtain ⟨lv,fs,c',sh2,m1,m2,m3,m4,m5,m6,m7,m8,m9,m10⟩:=hI2.mid
  have d0:=blk_cell (i:=0) hI2.h0
  have d1:=blk_cell (i:=0) hI2.h1
  have d2:=blk_cell (i:=0) m1
  have d3:=blk_cell (i:=0) hI2.h3
  have d8:=blk_cell (i:=0) h8
  have d23:W2.cell? ⟨p,23,none⟩=some (.int .i64 tk):=by rw [hI2.tick,unhide HTK]
  simp at d0 d1 d2 d3 d8
  have hbk20:bk.size ≤ 20∧(a.fl i).kept[k].2 ≤ 1000000000000:=by
   have:=hbod _ (List.getElem_mem hkL)
   rw [(unhide HBK).1]
   exact this
  have hnk:nk < 4294967296:=by have:=(unhide HBK).2;omega
  have hDUE:=fun x (hb:Below W2.heap.size W2 x) => hide ((hI2.below hb).due hi3 hkL hbk20.2 htkm)
  rw [← (unhide HBK).2] at hDUE
  obtain ⟨dd,hdd⟩:∃ dd,dd=Mod.due (a.fl i) tk k (a.fl i).kept[k].2:=⟨_,rfl⟩
  rw [← hdd] at hDUE
  have HDD:=hide hdd
  have HI2:=hide hI2
  have hl0:=lt_of_block hI2.h0
  have hl1:=lt_of_block hI2.h1
  have hl3:=lt_of_block hI2.h3
  have hl8:=lt_of_block h8
  have hlp:p < W2.heap.size:=lt_of_block m3.ks.blk
  have H8:=hide h8
  clear hg8 hS h8 m1 m2 m3 m4 m5 m6 m7 m8 m9 m10 hI2 hdd
  gi_upto_region 6 with fail
  refine wpIn_region_frame (by kernel_rfl)
   [fun v _ => v = .pointer (some ⟨p,4+i * 6,none⟩),fun v _ => v = .int .i64 nk,fun v _ => v = .pointer (some ⟨p,0,none⟩),fun v _ => v = .pointer (some ⟨p,0,none⟩),fun v _ => v = .pointer (some ⟨p,23,none⟩),fun v _ => v = .int .i64 tk,fun v _ => v = .bool dd]
   [[(6,none)],[(7,none)],[(2,none)],[(22,some 2)],[(23,some 3)],[(24,some 4)],[(20,some 0),(21,some 1),(25,some 5)]] [some 20,some 21,some 22,some 23,some 24,some 25,some 26] [false,false,false,false,false,false,false,false,false,false,false,false,false,false,false,false,false,false,false,false,true,true,true,true,true,true,true,false,false,false,false,false,false,false,false,false,false,false,false,false,false,false,false,false,false,false,false,false]
   (by kernel_rfl) (by kernel_rfl) (by kernel_rfl) (by kernel_rfl) ?_ ?_ ?_
  ·repeat' (first | exact stable_eq _ | exact trivial | apply And.intro)
  ·refine ⟨?_,?_,?_,?_,?_,?_,?_,trivial⟩
   all_goals
    intro b x hb hf
    have z0:=(hb.cell (p:=⟨g0,0,none⟩) hl0).trans d0
    have z3:=(hb.cell (p:=⟨g0+3,0,none⟩) hl3).trans d3
    have z23:=(hb.cell (p:=⟨p,23,none⟩) hlp).trans d23
    have HC:=hide (unhide (hDUE x hb))
    clear hb hDUE
    simp only [PlanFacts,List.getD_cons_zero,List.getD_cons_succ,Array.getD_eq_getD_getElem?] at hf
    try simp at hf
    try go_simp
   all_goals first
    | exact ⟨rfl,Below.refl _ _⟩
    | exact ⟨_,rfl,Below.refl _ _,rfl⟩
    | exact Below.refl _ _
    | (refine ⟨trivial,((callsIn_wide.2 (unhide HC)).inRound _).mono ?_⟩;rintro r z ⟨rfl,hb⟩;exact ⟨_,rfl,hb,rfl⟩)
    | (refine ⟨trivial,((callsIn_wide.2 (unhide HC)).inRound _).mono ?_⟩;rintro r z ⟨rfl,hb⟩;exact ⟨rfl,hb⟩)
    | skip
  intro f x hbx hwd
  simp only [AllWords] at hwd
  have h26:=hwd.2.2.2.2.2.2.1
  have HBX:=hide hbx
  clear hwd hDUE hbx
  simp only [mergeT,h26]
  generalize f 20=x20
  generalize f 21=x21
  generalize f 22=x22
  generalize f 23=x23
  generalize f 24=x24
  generalize f 25=x25
  cases dd with
  | false =>
   gi_wp2
   have hsz:=(unhide HI2).sz
   refine ⟨(unhide HBX).block _ (by omega),(unhide HBX).block _ (by omega),?_⟩
   rw [sentFr_skip hkL (unhide HDD).symm,sentAg_skip hkL (unhide HDD).symm]
   exact (unhide HI2).below (unhide HBX)
  | true =>
   have hxs:=(unhide HBX).size
   have e0:=((unhide HBX).cell (p:=⟨g0,0,none⟩) hl0).trans d0
   have e3:=((unhide HBX).cell (p:=⟨g0+3,0,none⟩) hl3).trans d3
   have e23:=((unhide HBX).cell (p:=⟨p,23,none⟩) hlp).trans d23
   have X0:g0 < x.heap.size:=by omega
   have X3:g0+3 < x.heap.size:=by omega
   have XP:p < x.heap.size:=by omega
   clear d0 d1 d2 d3 d8 d23
   have HPUT:=fun y (hb:Below x.heap.size x y) => hide (((unhide HI2).below ((unhide HBX).trans (hb.mono hxs))).put hi3 hkL (unhide HDD).symm htk0)
   rw [← (unhide HBK).2] at HPUT
   gi_upto_region 7 with fail
   refine wpIn_region_last (by kernel_rfl)
    [fun v _ => v = .pointer (some ⟨p,4+i * 6,none⟩),fun v _ => v = .pointer (some ⟨p,4+i * 6,none⟩),fun v _ => v = .pointer (some ⟨p,4+i * 6+2,none⟩),fun v _ => v = .int .i64 nk,fun v _ => v = .pointer (some ⟨p,0,none⟩),fun v _ => v = .pointer (some ⟨p,0,none⟩),fun v _ => v = .pointer (some ⟨p,23,none⟩),fun v _ => v = .int .i64 tk,fun _ _ => True]
    [[(6,none)],[(27,some 0)],[(28,some 1)],[(7,none)],[(2,none)],[(31,some 4)],[(32,some 5)],[(33,some 6)],[(29,some 2),(30,some 3),(34,some 7)]] [some 27,some 28,some 29,some 30,some 31,some 32,some 33,some 34,some 35] [false,false,false,false,false,false,false,false,false,false,false,false,false,false,false,false,false,false,false,false,false,false,false,false,false,false,false,true,true,true,true,true,true,true,true,true,false,false,false,false,false,false,false,false,false,false,false,false]
    8 _ rfl rfl (by kernel_rfl) (by kernel_rfl) (by kernel_rfl) (by kernel_rfl) (by kernel_rfl) (by kernel_rfl) ?_ ?_ ?_
   ·repeat' (first | exact stable_eq _ | exact stable_true | exact trivial | apply And.intro)
   ·refine ⟨?_,?_,?_,?_,?_,?_,?_,?_,trivial⟩
    all_goals
     intro b y hb hf
     have z0:=(hb.cell (p:=⟨g0,0,none⟩) X0).trans e0
     have z3:=(hb.cell (p:=⟨g0+3,0,none⟩) X3).trans e3
     have z23:=(hb.cell (p:=⟨p,23,none⟩) XP).trans e23
     clear hb HPUT
     simp only [PlanFacts,List.getD_cons_zero,List.getD_cons_succ,Array.getD_eq_getD_getElem?] at hf
     try simp at hf
     try go_simp
    all_goals first
     | exact ⟨rfl,Below.refl _ _⟩
     | exact ⟨_,rfl,Below.refl _ _,rfl⟩
     | exact Below.refl _ _
     | skip
   intro f2 y hby hwd
   simp only [AllWords,List.take] at hwd
   have g29:=hwd.2.2.1
   have g30:=hwd.2.2.2.1
   have g34:=hwd.2.2.2.2.2.2.2.1
   have HP:=hide (unhide (HPUT y hby))
   have HBY:=hide ((unhide HBX).trans (hby.mono hxs))
   clear hwd HPUT hby e0 e3 e23
   simp only [mergeT,g29,g30,g34]
   generalize f2 27=y27
   generalize f2 28=y28
   generalize f2 31=y31
   generalize f2 32=y32
   generalize f2 33=y33
   go_simp
   refine ⟨trivial,((callsIn_wide.2 (unhide HP)).inRound _).mono ?_⟩
   rintro r z ⟨rfl,hI,hq6,hq7,hsz,hrec⟩
   have hyW:=(unhide HBY).size
   have h8z:=(hrec g8 _ (((unhide HBY).block g8 hl8).trans (unhide H8))).trans (((unhide HBY).block g8 hl8).trans (unhide H8))
   have hq6:=hq6.trans ((unhide HBY).block _ (by have:=(unhide HI2).sz;omega))
   have hq7:=hq7.trans ((unhide HBY).block _ (by have:=(unhide HI2).sz;omega))
   have HQ:=hide (And.intro hq6 hq7)
   obtain ⟨lv,fs,c',sh2,m1,m2,m3,m4,m5,m6,m7,m8,m9,m10⟩:=hI.mid
   have hlo:=hI.lo
   have hzs:=hI.sz
   have hln:fs.length ≤ 3:=by
    have h1:=m2.len
    have h2:=sendTo_cnt a.epoch i (a.fl i) tk k
    unfold sentFr at h1
    rw [List.length_map] at h1
    omega
   obtain ⟨lad,lcap,elv,_⟩:=(own_rowO m2.row).shape
   subst elv
   obtain ⟨ep,hep⟩:∃ ep,ep=st.opening:=⟨_,rfl⟩
   have hepa:ep=a.epoch:=by rw [hep];exact m4.ep
   have hep4:ep < 4294967296:=by rw [hep];exact m3.stt.op
   obtain ⟨FB,hFB⟩:∃ FB,FB=Wire.bytes 3 ep i nk bk.data.toList:=⟨_,rfl⟩
   have HFB:=fun y => hide (frameBytes_small 3 ep i nk bk y (by omega) (by omega) (by omega) (by omega) (by omega))
   rw [← hFB] at HFB
   have hfr:sentFr a i tk (k+1)=sentFr a i tk k ++ [⟨FB.toArray⟩]:=by
    rw [sentFr_send hkL (unhide HDD).symm,hFB,hepa,(unhide HBK).1,(unhide HBK).2]
   have hlvb:∀ j,(Value.slice lad fs.length lcap).ownBlock=some j→g0+8 ≤ j∧j < z.heap.size:=fun j hj => m2.lt j (.inl hj)
   have hne8:(Value.slice lad fs.length lcap).ownBlock ≠ some g8:=(own_rowO m2.row).ne h8z (by decide)
   have c0:=blk_cell (i:=0) hI.h0
   have c1:=blk_cell (i:=0) hI.h1
   have c2:=blk_cell (i:=0) m1
   have c8:=blk_cell (i:=0) h8z
   have f2z:=blk_free (i:=0) m1
   simp at c0 c1 c2 c8
   have hEPz:=fun y (c4:Av) (K:PaAt y p g (sentAg a i tk (k+1)).ticks (sentAg a i tk (k+1)).welcome (sentAg a i tk (k+1)).fenced free sh2 st c4) => hide (agEpoch_any K)
   rw [← hep] at hEPz
   have hlpz:∀ j,j=g0+2 ∨ (Value.slice lad fs.length lcap).ownBlock=some j→¬ PaU p c' j:=fun j hj hu => by
    rcases hj with rfl | hj
    ·rcases m6 _ hu with h | h
     ·have:=hlo _ h;omega
     ·omega
    ·exact m2.clear j (.inl hj) hu
   have HZ:=hide (And.intro hI (And.intro m1 (And.intro m2 (And.intro m3 (And.intro m4 (And.intro m5 (And.intro m6 (And.intro m7 (And.intro m8 (And.intro m9 m10))))))))))
   have HH8:=hide h8z
   have HH1:=hide m1
   have HH0:=hide (And.intro hI.h0 hI.h1)
   have HK3:=hide m3
   have HFR:=hide hfr
   clear hI m1 m2 m3 m4 m5 m6 m7 m8 m9 m10 hfr hFB hep hepa hrec h8z hq6 hq7
   unfold ptrTo at *
   gi_upto_region 8 with fail
   refine wpIn_region_foot (by kernel_rfl)
    [fun v _ => v = .slice lad fs.length lcap,fun v _ => v = .pointer (some ⟨p,0,none⟩),fun v _ => v = .int .i64 ep,fun v _ => v = .int .i64 i,fun v _ => v = .int .i64 nk,fun v _ => v = .pointer (some ⟨g8,0,none⟩),fun v _ => v = .string bk,fun v _ => v = .agg #[.int .i64 3,.int .i64 ep,.int .i64 i,.int .i64 nk,.string bk],
     fun v y => Owns z.heap.size y v FB,OneF z.heap.size FB,RowF z.heap.size (g0+8) (.slice lad fs.length lcap) fs FB,fun _ y => SendI w g0 p i c st g free pl (sentFr a i tk (k+1)) (sentAg a i tk (k+1)) y]
    [[(5,none)],[(2,none)],[(37,some 1)],[(3,none)],[(7,none)],[(8,none)],[(41,some 5)],[(38,some 2),(39,some 3),(40,some 4),(42,some 6)],[(43,some 7)],[(44,some 8)],[(36,some 0),(45,some 9)],[(5,none),(46,some 10)]] [some 36,some 37,some 38,some 39,some 40,some 41,some 42,some 43,some 44,some 45,some 46,none] [false,false,false,false,false,false,false,false,false,false,false,false,false,false,false,false,false,false,false,false,false,false,false,false,false,false,false,false,false,false,false,false,false,false,false,false,true,true,true,true,true,true,true,true,true,true,true,false]
    [(10,fun j => (Value.slice lad fs.length lcap).ownBlock=some j),(11,fun j => j=g0+2)]
    (by kernel_rfl) (by kernel_rfl) (by kernel_rfl) (by kernel_rfl) (by kernel_rfl) ?_ ?_ ?_ ?_
   ·repeat' (first | exact stable_eq _ | exact stable_owns _ _ | exact stable_oneF _ _ | exact stable_rowF _ _ _ _ _ | exact (fun _ _ _ h hb => h.below hb) | exact trivial | apply And.intro)
   ·repeat' (first | exact trivial | exact .inl rfl | exact .inr (.inr (stableF_eq _ _)) | exact .inr (.inr (stableF_owns (fun j hj => (hlvb j hj).2))) | exact .inr (.inr (stableF_oneF (fun j hj => (hlvb j hj).2))) | exact .inr (.inr (stableF_owns (fun j (hj:j=g0+2) => by omega))) | exact .inr (.inr (stableF_oneF (fun j (hj:j=g0+2) => by omega))) | exact .inr (.inr (stableF_rowF (fun j (hj:j=g0+2) => by omega))) | exact .inr (.inl (show depB _ 11 10=true by decide +kernel)) | apply And.intro)
   ·refine ⟨?_,?_,?_,?_,?_,?_,?_,?_,?_,?_,?_,?_,trivial⟩
    all_goals
     intro b y hb hf
     have hzz:=hb.size
     have HBZ:=hide hb
     have hno:∀ (ops:Array Oper) (ii j:Nat),j ≠ g0+2→(Value.slice lad fs.length lcap).ownBlock ≠ some j→¬ footBut [(10,fun j => (Value.slice lad fs.length lcap).ownBlock=some j),(11,fun j => j=g0+2)] ops ii j:=fun ops ii j h1 h2 => footBut_no (by intro q hq;simp at hq;rcases hq with rfl | rfl;exact h2;exact h1)
     have hn2:∀ j,j < g0+8→(Value.slice lad fs.length lcap).ownBlock ≠ some j:=fun j h1 e => by have:=(hlvb j e).1;omega
     have z0:=blk_cell (i:=0) (hb.blk (unhide HH0).1 (hno _ _ _ (by omega) (hn2 _ (by omega))))
     have z1:=blk_cell (i:=0) (hb.blk (unhide HH0).2 (hno _ _ _ (by omega) (hn2 _ (by omega))))
     have z8:=blk_cell (i:=0) (hb.blk (unhide HH8) (hno _ _ _ (by omega) hne8))
     simp at z0 z1 z8
     clear hb hno hn2
     simp only [PlanFacts,List.getD_cons_zero,List.getD_cons_succ,Array.getD_eq_getD_getElem?] at hf
     try simp at hf
    ·have z2:=blk_cell (i:=0) ((unhide HBZ).blk (unhide HH1) (by
      rintro ⟨q,hq,g1,g2,g3⟩
      simp at hq
      rcases hq with rfl | rfl
      ·have:=(hlvb _ g3).1;omega
      ·exact absurd (show depB _ 11 0=false from g2) (by decide +kernel)))
     simp at z2
     go_simp
     first | exact ⟨_,rfl,Far.refl _ _,rfl⟩ | exact ⟨rfl,Far.refl _ _⟩ | exact Far.refl _ _
    ·go_simp
     first | exact ⟨_,rfl,Far.refl _ _,rfl⟩ | exact ⟨rfl,Far.refl _ _⟩ | exact Far.refl _ _
    ·have K:=(unhide HK3).far (unhide HBZ) (fun j hu => footBut_no (by
      intro q hq
      simp at hq
      rcases hq with rfl | rfl
      ·exact fun e => hlpz j (.inr e) hu
      ·exact fun e => hlpz j (.inl e) hu))
     have HC:=hide (unhide (hEPz y _ K))
     clear K
     go_simp
     refine ⟨trivial,((callsIn_wide.2 (unhide HC)).inRound _).mono ?_⟩
     rintro r y2 ⟨rfl,hyy⟩
     obtain rfl:y=y2:=hyy.symm
     first | exact ⟨_,rfl,Far.refl _ _,rfl⟩ | exact ⟨rfl,Far.refl _ _⟩ | exact Far.refl _ _
    iterate 5
     ·go_simp
      first | exact ⟨_,rfl,Far.refl _ _,rfl⟩ | exact ⟨rfl,Far.refl _ _⟩ | exact Far.refl _ _
    ·go_simp
     refine ⟨trivial,((callsIn_wide.2 (unhide (HFB y))).inRound _).mono ?_⟩
     rintro r y2 ⟨v,rfl,ho,hb⟩
     exact ⟨_,rfl,far_below hb,ownsRow_monoB ho (by omega)⟩
    ·obtain ⟨ad2,cap2,e2,_⟩:=(own_rowO hf).shape
     have HO:=hide hf
     clear hf
     rw [e2] at HO
     go_simp
     exact ⟨_,rfl,far_below ((Below.refl _ _).alloc (Nat.le_refl _) _),_,_,rfl,hzz,heap_alloc_new y _,Owns.alloc (unhide HO) _⟩
    ·obtain ⟨hf36,gg,vb,hf45,hg1,hg2,hg3⟩:=hf
     obtain ⟨ad2,cap2,e2,_⟩:=(own_rowO hg3).shape
     have hrow:y.ownsRow (g0+8) 48 1 (.slice lad fs.length lcap) fs.length fs:=ownsRow_keep (unhide HZ).2.2.1.row (fun j hj => (unhide HBZ).rest j (hlvb j hj).2 (by
      rintro ⟨q,hq,g1,g2,g3⟩
      simp at hq
      rcases hq with rfl | rfl
      ·exact g1 rfl
      ·have:j=g0+2:=g3
       have:=(hlvb j hj).1
       omega))
     refine stepIn_app_own rfl (.tmp 36) (.tmp 45) 32 rfl (g0+8) 48 (.slice none 0 0) 1 24 Tryz.underlying32 (by kernel_rfl) rfl (by decide) (.slice lad fs.length lcap) fs.length fs hrow (by simp [Act.eval,hf36]) ⟨gg,0,none⟩ 1 1 [vb] (by simp [Act.eval,hf45]) rfl ?_ (by intro u hu;simp at hu;subst hu;rw [e2];rfl) (by unfold maxLen;omega) (by omega) (by omega) ?_
     ·intro j u hj
      rw [add_mk,blk_cell hg2,Nat.zero_add]
      simpa using hj
     ·intro v' w' q1 q2 q3
      exact ⟨v',rfl,footOf_of (.head _) (far_grown q2),vb,q1,ownsRow_keep hg3 (fun j hj => q2.block j (World.ownsRow.lt hg3 j hj).2 (fun e => by have:=(hlvb j e.symm).2;have:=(World.ownsRow.lt hg3 j hj).1;omega)),fun j hj => by
       have hj:v'.ownBlock=some j:=hj
       rcases q3 with e | e
       ·exact .inl (by rw [← e];exact hj)
       ·rw [e] at hj
        injection hj with hj
        exact .inr (by omega)⟩
    ·have hFz:Far (fun j => (Value.slice lad fs.length lcap).ownBlock=some j) z y:=(unhide HBZ).mono (by
      rintro j _ ⟨q,hq,g1,g2,g3⟩
      simp at hq
      rcases hq with rfl | rfl
      ·exact g3
      ·exact absurd rfl g1)
     have hb2:=hFz.blk (unhide HH1) (fun e => by have:=(hlvb _ e).1;omega)
     have z2:=blk_cell (i:=0) hb2
     have z2f:=blk_free (i:=0) hb2
     simp at z2
     obtain ⟨_,vb,hr,hv,hl⟩:=hf
     obtain ⟨ad3,cap3,e3,_⟩:=(own_rowO hr).shape
     rw [e3] at hr hl
     have HR:=hide (And.intro hr (And.intro hv hl))
     have HFz:=hide hFz
     clear hr hv hl hFz hb2
     go_simp
     obtain ⟨hr,hv,hl⟩:=unhide HR
     obtain ⟨hI,m1,m2,m3,m4,m5,m6,m7,m8,m9,m10⟩:=unhide HZ
     refine ⟨footOf_of (.tail _ (.head _)) (far_set y (g0+2) 0 _),?_⟩
     rw [unhide HFR]
     exact sendI_app hI m1 m2 m3 m4 m5 m6 m7 m8 m9 m10 (unhide HFz) (by simpa using hv) hr hl
   ·intro f3 y hF hwd
    have hI2:=hwd.2.2.2.2.2.2.2.2.2.2.2.1
    have hF2:=hF.mono (E':=fun j => g0+8 ≤ j ∨ j=g0+2) (fun j _ h => by
     obtain ⟨q,hq,h⟩:=h
     simp at hq
     rcases hq with rfl | rfl
     ·exact .inl (hlvb j h).1
     ·exact .inr h)
    have h6:=hF2.rest (g0+6) (by omega) (by omega)
    have h7:=hF2.rest (g0+7) (by omega) (by omega)
    have HE:=hide (And.intro h6 (And.intro h7 hI2))
    clear hwd hF hF2 h6 h7 hI2
    simp only [mergeT]
    gi_wp2
    obtain ⟨h6,h7,hI2⟩:=unhide HE
    exact ⟨h6.trans (unhide HQ).1,h7.trans (unhide HQ).2,hI2⟩
 ·intro k W h
  have:=h.sz
  omega
 ·intro W h hK
  rw [hD] at hK ⊢
  rw [hlen,← sentFr_four rfl,← sentAg_four rfl] at h
  obtain ⟨lv,fs,c',sh2,m1,m2,m3,m4,m5,m6,m7,m8,_,_⟩:=h.mid
  have c5:=blk_cell (i:=0) m1
  simp at c5
  have hlo:=h.lo
  have hzW:=h.sz
  have HE:=hide (And.intro m2 (And.intro m3 (And.intro m4 (And.intro m5 (And.intro m6 (And.intro m7 m8))))))
  clear h m1 m2 m3 m4 m5 m6 m7 m8
  go_wp2
  have hput:Far (fun k => k=g0+6) W (W.putObj (g0+6) (.deferred none)):=⟨rfl,rfl,rfl,by rw [World.putObj_size];exact Nat.le_refl _,fun k _ h => World.putObj_heap_other h⟩
  refine ⟨by simp,.inl ⟨_,_,rfl,run_takeDeferred hK,?_⟩⟩
  obtain ⟨m2,m3,m4,m5,m6,m7,m8⟩:=unhide HE
  have hgw:=unhide HG0
  have hno:∀ j,PaU p c' j→¬ j=g0+6:=fun j hj e => by
   rcases m6 j hj with h1 | h1
   ·have:=hlo j h1;omega
   ·omega
  rw [unhide HTK] at m2 m4
  refine ⟨_,results_tmp rfl _ _ _,_,fs,c',sh2,rfl,?_,m3.far hput hno,m4,m5.trans hput (fun k hk e => by omega),fun j hj => (m6 j hj).imp id (fun h => by omega),m7,m8⟩
  have:=m2.keep (x:=W.putObj (g0+6) (.deferred none)) (fun k hk => hput.rest k (m2.lt k hk).2 (by have:=(m2.lt k hk).1;omega))
  exact ⟨this.len,ownsRow_monoB this.row (by omega),fun j v hj => ownsRow_monoB (this.each j v hj) (by omega),this.apart,this.clear⟩
end
end Go.Proofs.YtamafdcnbcoegabGreat
namespace Go.Proofs.YtamafdcnbcoegabGreat
open Go.RowKit
def tickFr (a:Mod.Ag) (t s:Nat):List ByteArray:=(Mod.sendOut a.epoch t a.fl s).map fun l => ⟨l.toArray⟩
theorem tickFr_succ (a:Mod.Ag) (t s:Nat):tickFr a t (s+1)=tickFr a t s ++ sentFr (tickAg a t s) s t 4:=by
 unfold tickFr sentFr
 rw [tickAg_fl]
 show (Mod.sendOut a.epoch t a.fl s ++ (Mod.sendTo a.epoch s (a.fl s) t 4).2).map _=_
 rw [List.map_append]
 rfl
theorem get_app {α:Type} {l r:List α} {j:Nat} {u:α} (h:(l ++ r)[j]? = some u):(l[j]? = some u∧j < l.length) ∨ (r[j - l.length]? = some u∧l.length ≤ j):=by
 by_cases hj:j < l.length
 ·rw [List.getElem?_append_left hj] at h;exact .inl ⟨h,hj⟩
 ·rw [List.getElem?_append_right (by omega)] at h;exact .inr ⟨h,by omega⟩
theorem framesOut_app {B:Nat} {x y z:World} {lv lv2 lv':Value} {fs fs2:List Value} {F F2:List ByteArray} {U U':Nat→Prop}
  (h1:FramesOut B x lv fs F U) (h2:FramesOut x.heap.size y lv2 fs2 F2 U') (hF:Far U x y) (hN:∀ k,U' k→U k ∨ x.heap.size ≤ k) (hUl:∀ k,U' k→k < y.heap.size) (hB:B ≤ x.heap.size)
  (hr:z.ownsRow B 48 1 lv' (fs.length+fs2.length) (fs ++ fs2)) (hg:y.grownBy z lv.ownBlock) (hl:lv'.ownBlock=lv.ownBlock ∨ lv'.ownBlock=some y.heap.size):FramesOut B z lv' (fs ++ fs2) (F ++ F2) U':=by
 have hlen1:=h1.len
 have hlen2:=h2.len
 have hxy:=hF.size
 have hlvb:∀ k,lv.ownBlock=some k→B ≤ k∧k < x.heap.size:=fun k hk => h1.lt k (.inl hk)
 have old:∀ (j:Nat) (u:Value),fs[j]? = some u→∀ k,u.ownBlock=some k→B ≤ k∧k < x.heap.size∧¬ U k∧lv.ownBlock ≠ some k:=fun j u hj k hk => by
  have hd:Done fs fs.length k:=⟨j,(List.getElem?_eq_some_iff.1 hj).1,u,hj,hk⟩
  have h3:=h1.lt k (.inr hd)
  exact ⟨h3.1,h3.2,h1.clear k (.inr hd),own_ty (own0 (h1.each j u hj)) (own0 h1.row) (by decide) hk⟩
 have new:∀ (j:Nat) (u:Value),fs2[j]? = some u→∀ k,u.ownBlock=some k→x.heap.size ≤ k∧k < y.heap.size∧¬ U' k:=fun j u hj k hk => by
  have hd:Done fs2 fs2.length k:=⟨j,(List.getElem?_eq_some_iff.1 hj).1,u,hj,hk⟩
  have h3:=h2.lt k (.inr hd)
  exact ⟨h3.1,h3.2,h2.clear k (.inr hd)⟩
 refine ⟨by simp [hlen1,hlen2],by simpa using hr,fun j u hj => ?_,fun j1 j2 u1 u2 hj1 hj2 hjn k hk1 hk2 => ?_,fun k hk hu => ?_⟩
 ·rcases get_app hj with ⟨hj,hjl⟩ | ⟨hj,hjl⟩
  ·have e:((F ++ F2).map fun b => b.data.toList).getD j [] = (F.map fun b => b.data.toList).getD j []:=by
    rw [List.getD_eq_getElem?_getD,List.getD_eq_getElem?_getD,List.map_append,List.getElem?_append_left (by simp;omega)]
   rw [e]
   exact ownsRow_keep (h1.each j u hj) (fun k hk => by
    obtain ⟨q1,q2,q3,q4⟩:=old j u hj k hk
    exact (hg.block k (by omega) (fun e => q4 e.symm)).trans (hF.rest k q2 q3))
  ·have e:((F ++ F2).map fun b => b.data.toList).getD j [] = (F2.map fun b => b.data.toList).getD (j - fs.length) []:=by
    rw [List.getD_eq_getElem?_getD,List.getD_eq_getElem?_getD,List.map_append,List.getElem?_append_right (by simp;omega)]
    simp [hlen1]
   rw [e]
   refine ownsRow_monoB (ownsRow_keep (h2.each _ u hj) (fun k hk => ?_)) hB
   obtain ⟨q1,q2,q3⟩:=new _ u hj k hk
   exact hg.block k q2 (fun e => by have:=(hlvb k e.symm).2;omega)
 ·rcases get_app hj1 with ⟨a1,b1⟩ | ⟨a1,b1⟩ <;> rcases get_app hj2 with ⟨a2,b2⟩ | ⟨a2,b2⟩
  ·exact h1.apart j1 j2 u1 u2 a1 a2 hjn k hk1 hk2
  ·have:=old j1 u1 a1 k hk1;have:=new _ u2 a2 k hk2;omega
  ·have:=old j2 u2 a2 k hk2;have:=new _ u1 a1 k hk1;omega
  ·exact h2.apart _ _ u1 u2 a1 a2 (by omega) k hk1 hk2
 ·rcases hk with hk | ⟨j,hj,u,hju,hk⟩
  ·rcases hl with e | e
   ·rw [e] at hk
    have h3:=hlvb k hk
    rcases hN k hu with h4 | h4
    ·exact h1.clear k (.inl hk) h4
    ·omega
   ·rw [e] at hk
    injection hk with hk
    have:=hUl k hu
    omega
  ·rcases get_app hju with ⟨a1,b1⟩ | ⟨a1,b1⟩
   ·obtain ⟨q1,q2,q3,q4⟩:=old j u a1 k hk
    rcases hN k hu with h4 | h4
    ·exact q3 h4
    ·omega
   ·exact (new _ u a1 k hk).2.2 hu
end Go.Proofs.YtamafdcnbcoegabGreat
namespace Go.Proofs.YtamafdcnbcoegabGreat
open Go.RowKit
theorem wpList_cat_own {ops:Array Oper} {rest:List Oper} {o:Oper} {a:Act} {Q:Exit→Act→World→Prop} {w:World} (hgd:o.guard=none) (s x:Operand) (t:TypeId) (ho:o.op = .call { callee:=.builtin .append,args:=#[s,x],argTypes:=#[t,t] })
  (base:Nat) (e:TypeId) (z:Value) (size bytes:Nat) (ht:Tryz.prog.underlying t=some (.slice e)) (hinfo:(Tryz.prog.info? e).map (fun i => (i.zero,i.size,i.bytes))=some (some z,size,bytes)) (hzs:z.cells.size=size) (hsz:0 < size)
  (v:Value) (n:Nat) (xs:List Value) (hown:w.ownsRow base e size v n xs) (hs:a.eval s=v) (base2:Nat) (v2:Value) (m:Nat) (news:List Value) (hown2:w.ownsRow base2 e size v2 m news) (hx:a.eval x=v2)
  (h1:∀ u ∈ news,u.oneCell' = true) (h63:n+m ≤ maxLen) (hb:(n+m) * bytes ≤ 140737488355328) (hbase:base ≤ w.heap.size)
  (h:∀ v' w',w'.ownsRow base e size v' (n+m) (xs ++ news)→w.grownBy w' v.ownBlock→(v'.ownBlock=v.ownBlock ∨ v'.ownBlock=some w.heap.size)→wpList Tryz.prog ops Q rest (a.put o.dst v') w'):wpList Tryz.prog ops Q (o :: rest) a w:=by
 obtain ⟨i0,hi,hz0,hz1,hz2⟩:=info_parts2 hinfo
 rcases hown2.2 with ⟨rfl,rfl⟩ | ⟨g,cap,cur,rfl,hg1,hg2,hg3,hg4,hg5,hg6⟩
 ·have hn:news = []:=by have:=hown2.1;simpa using this
  subst hn
  refine wpList_plain hgd fun K hK => ?_
  have hrun:(Builtin.append_ #[t,t] o.type #[v,.slice none 0 0]).run Tryz.prog w = .ok v w:=by
   rcases hown.2 with ⟨rfl,rfl⟩ | ⟨g,cap,cur,rfl,_,_,hnc,_⟩
   ·simp [Builtin.append_,run_underlying ht,sizeOf,typeInfo,hi,Builtin.lenOf,Builtin.firstCells]
   ·simp [Builtin.append_,run_underlying ht,sizeOf,typeInfo,hi,Builtin.lenOf,Builtin.firstCells,hnc,storeCells]
  unfold Oper.wp
  simp [execOp,ho,resolve,invoke,builtin,hs,hx,hrun,Result.andThen]
  exact hK _ _ (h v w (by simpa using hown) (World.grownBy.refl _ _) (.inl rfl))
 ·refine wpList_append_own_at w hgd s x t ho base e i0 z size bytes ht hi hz0 hz1 hz2 hzs hsz v n xs hs hown ⟨g,0,none⟩ m cap news hx hown2.1 ?_ h1 h63 hb hbase (fun v' w' q1 q2 _ q4 => h v' w' q1 q2 q4)
  intro j u hj
  have hjl:j < m * size:=by
   rw [← hown2.1]
   exact (List.getElem?_eq_some_iff.1 hj).1
  have:=World.ownsRow.cellAt hown2 j hjl
  rw [hj] at this
  rw [add_mk,Nat.zero_add]
  exact this
theorem sentFr_cnt (a:Mod.Ag) (i t:Nat):(sentFr a i t 4).length ≤ 4:=by
 unfold sentFr
 rw [List.length_map]
 exact sendTo_cnt _ _ _ _ _
theorem tickFr_cnt (a:Mod.Ag) (t:Nat):∀ j,(tickFr a t j).length ≤ 4 * j
 | 0 => Nat.le_refl _
 | j+1 => by
  have ih:=tickFr_cnt a t j
  have h:=sentFr_cnt (tickAg a t j) j t
  rw [tickFr_succ,List.length_append]
  omega
theorem FramesOut.one {B:Nat} {w:World} {lv:Value} {fs:List Value} {Fl:List ByteArray} {U:Nat→Prop} (h:FramesOut B w lv fs Fl U):∀ u ∈ fs,u.oneCell' = true:=by
 intro u hu
 obtain ⟨j,hj,rfl⟩:=List.getElem_of_mem hu
 obtain ⟨ad,cap,e,_⟩:=(own_rowO (h.each j _ (List.getElem?_eq_getElem hj))).shape
 rw [e]
 rfl
def AgOut (w z:World) (p:Nat) (a':Mod.Ag) (c:Av) (lv:Value) (fs:List Value) (F:List ByteArray):Prop :=
 ∃ c',FramesOut w.heap.size z lv fs F (PaU p c')∧(∃ g free sh pl st,PaAt z p g a'.ticks a'.welcome a'.fenced free sh st c' ∧ Sound st∧OnAg a' st.opening g free sh pl)∧Far (PaU p c) w z∧(∀ k,PaU p c' k→PaU p c k ∨ w.heap.size ≤ k)∧c'.s=c.s∧c'.rv=c.rv
section
variable {w:World} {p:Nat} {g:Nat→Nat} {free:List Nat} {sh:Nat→List (Nat × Value)} {st:Mod.Stv} {c:Av} {a:Mod.Ag} {pl:Nat→List Nat}
set_option maxRecDepth 100000 in
set_option maxHeartbeats 8000000 in
theorem agTick_send (H:PaAt w p g a.ticks a.welcome a.fenced free sh st c) (hs:Sound st) (O:OnAg a st.opening g free sh pl) (htk:a.ticks ≤ 1000000000) (hbnd:∀ i,i < 3→(a.fl i).base+(a.fl i).kept.length < 4294967296) (hbod:∀ i,i < 3→∀ x ∈ (a.fl i).kept,x.1.size ≤ 20∧x.2 ≤ 1000000000000) (hf:a.fenced=false) (hw:a.welcome=true) :
  Calls Tryz.prog 43 #[ptrTo p] w fun r z => ∃ lv fs,r = .returned lv∧AgOut w z p a.tick.1 c lv fs (a.tick.2.map fun l => ⟨l.toArray⟩):=by
 have c23:w.cell? ⟨p,23,none⟩=some (.int .i64 a.ticks):=by rw [blk_cell H.ks.blk,H.ks.at']
 have f23:w.frozen? ⟨p,23,none⟩=false:=blk_free (i:=23) H.ks.blk
 obtain ⟨t2,ht2⟩:∃ t2,t2=a.ticks+1:=⟨_,rfl⟩
 rw [tick_send hf hw,← ht2]
 have HT:=hide ht2
 have HSD:=fun (wr:World) (c2:Av) (sh2:Nat→List (Nat × Value)) (j:Nat) (hj:j < 3) (K:PaAt wr p g (tickAg a t2 j).ticks (tickAg a t2 j).welcome (tickAg a t2 j).fenced free sh2 st c2) (O2:OnAg (tickAg a t2 j) st.opening g free sh2 pl) =>
  agSend_any K O2 j hj (by show t2 ≠ 0;omega) (by show t2 ≤ _;omega) (by rw [tickAg_fl];exact hbnd j hj) (by rw [tickAg_fl];exact hbod j hj)
 have HSEND:=hide HSD
 have HH:=hide (And.intro H (And.intro hs O))
 have hsd:=hs.1
 clear H O hs ht2 HSD hbnd hbod
 unfold ptrTo at *
 go_enter Tryz.func43,Tryz.ntmps43
 go_upto_region 2 with fail
 refine wp_world (fun x => PaStep w x p g t2 a.welcome a.fenced free sh st c) ?_ ?_
 ·rw [show ((a.ticks:Int)+1)=((t2:Nat):Int) by have:=unhide HT;omega]
  exact paStep_tick (unhide HH).1 t2
 clear c23 f23
 rintro x hst
 obtain ⟨c1,K1,F1,N1,s1,s2⟩:=hst
 have d25:x.cell? ⟨p,25,none⟩=some (.bool false):=by rw [blk_cell K1.ks.blk,K1.ks.ae,hf]
 have d24:x.cell? ⟨p,24,none⟩=some (.bool true):=by rw [blk_cell K1.ks.blk,K1.ks.aw,hw]
 have d0:x.cell? ⟨p,0,none⟩=some (.pointer (some ⟨c1.s,0,none⟩)):=by rw [blk_cell K1.ks.blk,K1.ks.a0];rfl
 have hID:=storeIsDead_any K1.stt
 rw [hsd] at hID
 have HID:=hide hID
 have HS:=hide (⟨c1,K1,F1,N1,s1,s2⟩:PaStep w x p g t2 a.welcome a.fenced free sh st c)
 clear K1 F1 N1 s1 s2 hID
 unfold ptrTo at *
 go_wp2_with (go_at_call 66;refine (unhide HID).mono ?_;rintro r y ⟨rfl,hyw⟩;obtain rfl:x=y:=hyw.symm)
 go_loopw [3,4,33] (fun v _ i wr => ∃ j:Nat,j ≤ 3∧i = .int .i64 j∧∃ fs c2 sh2,FramesOut w.heap.size wr v fs (tickFr a t2 j) (PaU p c2)∧PaAt wr p g (tickAg a t2 j).ticks (tickAg a t2 j).welcome (tickAg a t2 j).fenced free sh2 st c2∧OnAg (tickAg a t2 j) st.opening g free sh2 pl∧Far (PaU p c) w wr∧(∀ k,PaU p c2 k→PaU p c k ∨ w.heap.size ≤ k)∧c2.s=c.s∧c2.rv=c.rv) (fun _ _ i _ => 3 - (intOf i).toNat)
 case atStart =>
  obtain ⟨c2,K2,F2,N2,s1,s2⟩:=unhide HS
  refine ⟨0,by omega,rfl,[],c2,sh,⟨rfl,World.ownsRow_nil _ _ _ _,(fun j v hj => by simp at hj),(fun i j u v hi => by simp at hi),fun k hk => ?_⟩,K2,?_,F2,N2,s1,s2⟩
  ·rcases hk with h | ⟨j,hj,_⟩
   ·cases h
   ·simp at hj
  ·rw [tickAg_zero]
   exact (unhide HH).2.2.flags t2 a.welcome a.fenced
 case round =>
  obtain ⟨j,hj,rfl,fs,c2,sh2,m1,m2,m3,m4,m5,m6,m7⟩:=hrel
  clear HS HID d0 d24 d25
  by_cases hlt:j < 3
  ·have HSJ:=hide ((unhide HSEND) wr c2 sh2 j hlt m2 m3)
   have hj0:(0:Int) ≤ (j:Int):=by omega
   have hj3:(j:Int) < 3:=by omega
   have hcnt:=tickFr_cnt a t2 j
   have hsc:=sentFr_cnt (tickAg a t2 j) j (tickAg a t2 j).ticks
   obtain ⟨n1,hn1⟩:∃ n,n=fs.length:=⟨_,rfl⟩
   have hl1:n1 ≤ 8:=by have:=m1.len;omega
   have HN1:=hide hn1
   have hzw:=m4.size
   have hrow1:=m1.row
   rw [← hn1] at hrow1
   obtain ⟨ad,cap,rfl,_⟩:=(own_rowO hrow1).shape
   have HR1:=hide hrow1
   clear hrow1 hn1 hcnt
   have HM:=hide (And.intro m1 (And.intro m2 (And.intro m4 (And.intro m5 (And.intro m6 m7)))))
   clear m1 m2 m3 m4 m5 m6 m7
   unfold ptrTo at HSJ
   go_upto_region 10 with fail
   go_upto_region 11 with (first
    | (go_at_call 68;(refine (unhide HSJ).mono ?_;rintro r y ⟨lv2,fs2,c3,sh3,rfl,k1,k2,k3,k4,k5,k6,k7⟩;obtain ⟨n2,hn2⟩:∃ n,n=fs2.length:=⟨_,rfl⟩;have hl2:n2 ≤ 4:=(by have:=k1.len;omega);have hrow2:=k1.row;rw [← hn2] at hrow2;have HN2:=hide hn2;have hyz:=k4.size;obtain ⟨ad2,cap2,e2,_⟩:=(own_rowO hrow2).shape;subst e2;have HR2:=hide hrow2;clear hrow2 hn2;have HK:=hide (And.intro k1 (And.intro k2 (And.intro k3 (And.intro k4 (And.intro k5 (And.intro k6 k7))))));clear k1 k2 k3 k4 k5 k6 k7))
    | (at_builtin;(refine wpList_cat_own rfl (.tmp 36) (.tmp 39) 32 rfl w.heap.size 48 (.slice none 0 0) 1 24 Tryz.underlying32 (by kernel_rfl) rfl (by decide) (.slice ad n1 cap) n1 fs (ownsRow_keep (unhide HR1) (fun k hk => (unhide HK).2.2.2.1.rest k ((unhide HM).1.lt k (.inl hk)).2 ((unhide HM).1.clear k (.inl hk)))) rfl wr.heap.size (.slice ad2 n2 cap2) n2 fs2 (unhide HR2) rfl (unhide HK).1.one (by unfold maxLen;omega) (by omega) (by omega) ?_;intro v' w1 hown' hgrow hat;obtain ⟨ad3,cap3,e3,_⟩:=(own_rowO hown').shape;subst e3;have HV:=hide (And.intro hown' (And.intro hgrow hat));clear hown' hgrow hat)))
   go_wp2
   go_roundw
   case rel =>
    obtain ⟨m1,m2,m4,m5,m6,m7⟩:=unhide HM
    obtain ⟨k1,k2,k3,k4,k5,k6,k7⟩:=unhide HK
    obtain ⟨q1,q2,q3⟩:=unhide HV
    have hF:=framesOut_app (lv:=.slice ad n1 cap) m1 k1 k4 k5 k2.lt m4.size (by rw [← unhide HN1,← unhide HN2];exact q1) q2 q3
    have hno:∀ k,PaU p c3 k→¬ (Value.slice ad n1 cap).ownBlock=some k:=fun k hu e => by
     have h1:=m1.lt k (.inl e)
     rcases k5 k hu with h2 | h2
     ·exact m1.clear k (.inl e) h2
     ·omega
    have FG:=far_grown q2
    refine ⟨j+1,by omega,by go_num,fs ++ fs2,c3,sh3,?_,k2.far FG (fun k hu e => hno k hu (by simpa using e)),?_,(m4.trans k4 (fun k hk hu => ?_)).trans FG (fun k hk e => ?_),fun k hu => ?_,k6.trans m6,k7.trans m7⟩
    ·rw [tickFr_succ]
     exact hF
    ·have:=k3
     rw [show (tickAg a t2 j).ticks=t2 from rfl,tickAg_succ] at this
     exact this
    ·rcases m5 k hu with h | h
     ·exact h
     ·omega
    ·have:=(m1.lt k (.inl (by simpa using e))).1
     omega
    ·rcases k5 k hu with h | h
     ·exact m5 k h
     ·exact .inr (by omega)
   case measure => simp [intOf];omega
  ·have hj3:j=3:=by omega
   subst hj3
   have HM:=hide (And.intro m1 (And.intro m2 (And.intro m3 (And.intro m4 (And.intro m5 (And.intro m6 m7))))))
   obtain ⟨ad,cap,rfl,_⟩:=(own_rowO m1.row).shape
   clear m1 m2 m3 m4 m5 m6 m7
   go_wp2
   go_ret
   obtain ⟨m1,m2,m3,m4,m5,m6,m7⟩:=unhide HM
   exact ⟨_,fs,rfl,c2,m1,⟨g,free,sh2,pl,st,m2,(unhide HH).2.1,m3⟩,m4,m5,m6,m7⟩
end
end Go.Proofs.YtamafdcnbcoegabGreat
namespace Go.Proofs.YtamafdcnbcoegabGreat
open Go.RowKit
section
variable {top N:Nat} {C:AgentC top} {w x y:World} {q sv rp f:Nat} {a ar ap:Mod.Ag} {r:RRest} {kv kvc hk hkc:Nat→Value} {U U':Nat→Prop} {left:Int} {i:Int} {s:ByteArray}
end
theorem refuses_0 {a:Mod.Ag} {i:Int} {n:Nat} (h:a.refuses i n=0):(0 ≤ i∧i < 3)∧n ≤ 20∧a.room < 24:=by
 unfold Mod.Ag.refuses at h
 split at h
 ·simp at h
 ·split at h
  ·simp at h
  ·split at h
   ·simp at h
   ·omega
end Go.Proofs.YtamafdcnbcoegabGreat
namespace Go.Proofs.YtamafdcnbcoegabGreat
open Go.RowKit
theorem agOut_of {w x z:World} {p:Nat} {a':Mod.Ag} {c:Av} {lv:Value} {fs:List Value} {F:List ByteArray} (h:AgIs w x p a' c) (hb:Below x.heap.size x z) (hf:FramesOut x.heap.size z lv fs F (fun _ => False)):AgOut w z p a' c lv fs F:=by
 obtain ⟨g,free,sh,pl,st,⟨c',K,F',N,s1,s2⟩,hs,O⟩:=h
 exact ⟨c',hf.up F'.size K.lt,⟨g,free,sh,pl,st,K.below hb,hs,O⟩,F'.trans (far_below hb) (fun _ _ h => h),N,s1,s2⟩
section
variable {w:World} {p:Nat} {g:Nat→Nat} {free:List Nat} {sh:Nat→List (Nat × Value)} {st:Mod.Stv} {c:Av} {a:Mod.Ag} {pl:Nat→List Nat}
theorem agTick_any {N:Nat} (H:PaAt w p g a.ticks a.welcome a.fenced free sh st c) (hs:Sound st) (O:OnAg a st.opening g free sh pl) (G:AgGood N a) (hN:N < 1000000000) :
  Calls Tryz.prog 43 #[ptrTo p] w fun r z => ∃ lv fs,r = .returned lv∧AgOut w z p a.tick.1 c lv fs (a.tick.2.map fun l => ⟨l.toArray⟩):=by
 have htk:a.ticks ≤ 1000000000:=by have:=G.tk;omega
 cases hf:a.fenced with
 | true =>
  refine (agTick_fenced H hs O htk hf).mono ?_
  rintro r z ⟨rfl,h⟩
  have ht:a.tick.2 = []:=by unfold Mod.Ag.tick;rw [if_pos hf]
  rw [ht]
  exact ⟨_,[],rfl,agOut_of h (Below.refl _ _) ⟨rfl,World.ownsRow_nil _ _ _ _,(fun j v hj => by simp at hj),(fun i j u v hi => by simp at hi),fun k hk => fun h => h⟩⟩
 | false =>
  cases hw:a.welcome with
  | false =>
   refine (agTick_hello H hs O htk G.ep hf hw).mono ?_
   rintro r z ⟨lv,fs,x,rfl,h1,h2,h3⟩
   exact ⟨lv,fs,rfl,agOut_of h1 h2 h3⟩
  | true => exact agTick_send H hs O htk (fun i hi => by have:=G.sum i hi;omega) (fun i hi x hx => ⟨(G.bod i hi x hx).1,by have:=(G.bod i hi x hx).2;omega⟩) hf hw
end
def CaAt (w:World) (v:Nat) (a:Mod.Ag) (U:Nat→Prop):Prop :=
 ∃ p g free sh pl st c,w.heap[v]? = some (.cells #[ptrTo p] 76 (0,0))∧PaAt w p g a.ticks a.welcome a.fenced free sh st c∧Sound st∧OnAg a st.opening g free sh pl∧U=fun k => k=v ∨ PaU p c k
theorem caAt_lt {w:World} {v:Nat} {a:Mod.Ag} {U:Nat→Prop} (h:CaAt w v a U):∀ k,U k→k < w.heap.size:=by
 obtain ⟨p,g,free,sh,pl,st,c,hb,H,_,_,rfl⟩:=h
 rintro k (rfl | hk)
 ·exact lt_of_block hb
 ·exact H.lt k hk
theorem caAt_far {w w':World} {v:Nat} {a:Mod.Ag} {U E:Nat→Prop} (h:CaAt w v a U) (hf:Far E w w') (hE:∀ k,U k→¬ E k):CaAt w' v a U:=by
 obtain ⟨p,g,free,sh,pl,st,c,hb,H,h1,h2,rfl⟩:=h
 exact ⟨p,g,free,sh,pl,st,c,hf.blk hb (hE v (.inl rfl)),H.far hf (fun k hk => hE k (.inr hk)),h1,h2,rfl⟩
section
variable {w z:World} {p v:Nat} {g:Nat→Nat} {tk:Nat} {wel fen:Bool} {free:List Nat} {sh:Nat→List (Nat × Value)} {st:Mod.Stv} {c:Av} {a a':Mod.Ag} {U:Nat→Prop} {N:Nat}
theorem ca_not (H:PaAt w p g tk wel fen free sh st c) {q:Nat} (hb:w.heap[v]? = some (.cells #[ptrTo q] 76 (0,0))):¬ PaU p c v :=
 pa_not_cells H hb (by decide) (by decide) (by decide) (by decide) (by decide) (by decide) (by decide)
theorem caAt_is (hb:w.heap[v]? = some (.cells #[ptrTo p] 76 (0,0))) (hnv:¬ PaU p c v) (h:AgIs w z p a' c) :
  ∃ U',CaAt z v a' U' ∧ Far (fun k => k=v ∨ PaU p c k) w z∧∀ k,U' k→(k=v ∨ PaU p c k) ∨ w.heap.size ≤ k:=by
 obtain ⟨g,free,sh,pl,st,⟨c',K,F',Nn,s1,s2⟩,hs,O⟩:=h
 refine ⟨_,⟨p,g,free,sh,pl,st,c',F'.blk hb hnv,K,hs,O,rfl⟩,F'.mono (fun _ _ h => .inr h),?_⟩
 rintro k (rfl | hk)
 ·exact .inl (.inl rfl)
 ·exact (Nn k hk).imp .inr id
theorem caSubmit_any (i:Int) (s:ByteArray) (h:CaAt w v a U) (G:AgGood N a) (hN:N < 1000000000) :
  Calls Tryz.prog 22 #[ptrTo v,.int .i64 i,.string s] w fun r w' =>
   ∃ U',r = .returned (.int .i64 (a.refuses i s.size))∧CaAt w' v (agSubmits a i s) U' ∧ Far U w w' ∧ ∀ k,U' k→U k ∨ w.heap.size ≤ k:=by
 obtain ⟨p,g,free,sh,pl,st,c,hb,H,hs,O,rfl⟩:=h
 have c0:w.cell? ⟨v,0,none⟩=some (ptrTo p):=blk_cell (i:=0) hb
 have hA:Calls Tryz.prog 50 #[ptrTo p,.int .i64 i,.string s] w fun r z => r = .returned (.int .i64 (a.refuses i s.size))∧AgIs w z p (agSubmits a i s) c:=by
  unfold agSubmits
  by_cases h0:a.refuses i s.size=0
  ·rw [if_pos h0]
   obtain ⟨⟨h1,h2⟩,h3,h4⟩:=refuses_0 h0
   obtain ⟨n,rfl⟩:=Int.eq_ofNat_of_zero_le h1
   refine (agSubmit_ok H hs O (i:=n) (by omega) s h3 h4 (by have:=G.sum n (by omega);omega)).mono ?_
   rintro r z ⟨rfl,h⟩
   exact ⟨by rw [h0],h⟩
  ·rw [if_neg h0]
   refine (agSubmit_no H hs O i s h0).mono ?_
   rintro r z ⟨rfl,rfl⟩
   exact ⟨rfl,agIs_refl H hs O⟩
 have HA:=hide hA
 have HB:=hide (And.intro hb (ca_not H hb))
 generalize agSubmits a i s=a2 at *
 generalize a.refuses i s.size=e at *
 clear H O hs hb hA
 unfold ptrTo at *
 go_enter Tryz.func22,Tryz.ntmps22
 go_wp2_with (go_at_call 50;refine (unhide HA).mono ?_;rintro r y ⟨rfl,k1⟩;replace k1:=hide k1)
 go_ret
 obtain ⟨U',h1,h2,h3⟩:=caAt_is (unhide HB).1 (unhide HB).2 (unhide k1)
 exact ⟨U',rfl,h1,h2,h3⟩
theorem caDeliver_any (bs:Value) (l:List UInt8) (h:CaAt w v a U) (G:AgGood N a) (hN:N < 1000000000) (hat:BytesAt w bs l) :
  Calls Tryz.prog 16 #[ptrTo v,bs] w fun r w' =>
   ∃ U',r = .returned (.int .i64 (agSays a l).1)∧CaAt w' v (agSays a l).2 U' ∧ Far U w w' ∧ ∀ k,U' k→U k ∨ w.heap.size ≤ k:=by
 obtain ⟨p,g,free,sh,pl,st,c,hb,H,hs,O,rfl⟩:=h
 have c0:w.cell? ⟨v,0,none⟩=some (ptrTo p):=blk_cell (i:=0) hb
 have HA:=hide (agDeliver_any H hs O (fun i hi => by have:=G.sum i hi;omega) bs l hat)
 have HB:=hide (And.intro hb (ca_not H hb))
 generalize (agSays a l).2=a2 at *
 generalize (agSays a l).1=e at *
 clear H O hs hb hat
 unfold ptrTo at c0 HA
 show Calls Tryz.prog _ #[.pointer (some ⟨v,0,none⟩),bs] w _
 go_enter Tryz.func16,Tryz.ntmps16
 go_wp2_with (go_at_call 45;refine (unhide HA).mono ?_;rintro r y ⟨rfl,k1⟩;replace k1:=hide k1)
 go_ret
 obtain ⟨U',h1,h2,h3⟩:=caAt_is (unhide HB).1 (unhide HB).2 (unhide k1)
 exact ⟨U',rfl,h1,h2,h3⟩
theorem caTick_any (h:CaAt w v a U) (G:AgGood N a) (hN:N < 1000000000) :
  Calls Tryz.prog 13 #[ptrTo v] w fun r w' =>
   ∃ lv fs U',r = .returned lv∧FramesOut w.heap.size w' lv fs (a.tick.2.map fun l => ⟨l.toArray⟩) U' ∧ CaAt w' v a.tick.1 U' ∧ Far U w w' ∧ ∀ k,U' k→U k ∨ w.heap.size ≤ k:=by
 obtain ⟨p,g,free,sh,pl,st,c,hb,H,hs,O,rfl⟩:=h
 have c0:w.cell? ⟨v,0,none⟩=some (ptrTo p):=blk_cell (i:=0) hb
 have HA:=hide (agTick_any H hs O G hN)
 have hvl:=lt_of_block hb
 have HB:=hide (And.intro hb (ca_not H hb))
 generalize a.tick.1=a2 at *
 generalize a.tick.2=fr at *
 clear H O hs hb
 unfold ptrTo at *
 go_enter Tryz.func13,Tryz.ntmps13
 go_wp2_with (go_at_call 43;refine (unhide HA).mono ?_;rintro r y ⟨lv,fs,rfl,k1⟩;replace k1:=hide k1)
 go_ret
 obtain ⟨c',k1,⟨g2,free2,sh2,pl2,st2,K,hs2,O2⟩,F,Nn,s1,s2⟩:=unhide k1
 obtain ⟨hb,hnv⟩:=unhide HB
 refine ⟨lv,fs,fun k => k=v ∨ PaU p c' k,rfl,k1.apartU ?_,⟨p,g2,free2,sh2,pl2,st2,c',F.blk hb hnv,K,hs2,O2,rfl⟩,F.mono (fun _ _ h => .inr h),?_⟩
 ·rintro k hk (rfl | hu)
  ·have:=(k1.lt k hk).1;omega
  ·exact k1.clear k hk hu
 ·rintro k (rfl | hk)
  ·exact .inl (.inl rfl)
  ·exact (Nn k hk).imp .inr id
theorem caEpoch_any (h:CaAt w v a U) :
  Calls Tryz.prog 24 #[ptrTo v] w fun r w' => r = .returned (.int .i64 a.epoch)∧Below w.heap.size w w':=by
 obtain ⟨p,g,free,sh,pl,st,c,hb,H,hs,O,rfl⟩:=h
 have c0:w.cell? ⟨v,0,none⟩=some (ptrTo p):=blk_cell (i:=0) hb
 have hD:=agEpoch_any H
 rw [O.ep] at hD
 have HD:=hide hD
 clear H hb hD O
 unfold ptrTo at *
 go_enter Tryz.func24,Tryz.ntmps24
 go_wp2_with (go_at_call 52;refine (unhide HD).mono ?_;rintro r y ⟨rfl,hy⟩;obtain rfl:w=y:=hy.symm)
 go_ret
 exact ⟨rfl,Below.refl _ _⟩
theorem caSpool_any (i:Int) (h:CaAt w v a U) :
  Calls Tryz.prog 18 #[ptrTo v,.int .i64 i] w fun r w' =>
   ∃ lv,r = .returned lv∧w'.ownsRow w.heap.size 9 1 lv (agSpools a i).length (strs (agSpools a i))∧Below w.heap.size w w':=by
 obtain ⟨p,g,free,sh,pl,st,c,hb,H,hs,O,rfl⟩:=h
 have c0:w.cell? ⟨v,0,none⟩=some (ptrTo p):=blk_cell (i:=0) hb
 have HD:=hide (agSpool_any H hs O i)
 generalize agSpools a i=xs at *
 clear H hb O
 unfold ptrTo at *
 go_enter Tryz.func18,Tryz.ntmps18
 go_wp2_with (go_at_call 47;refine (unhide HD).mono ?_;rintro r y ⟨lv,rfl,k1,k2⟩;replace k1:=hide k1;replace k2:=hide k2)
 go_ret
 exact ⟨lv,rfl,unhide k1,unhide k2⟩
theorem caOpen_zero {w:World} (bs:Value) (hat:BytesAt w bs (List.replicate 1664 0)) :
  Calls Tryz.prog 21 #[bs] w fun r w' =>
   ∃ v U,r = .returned (.tuple #[ptrTo v,.int .i64 0])∧CaAt w' v { epoch:=1,ticks:=0,welcome:=false,fenced:=false,fl:=fun _ => { base:=0,kept:=[],held:=[] } } U∧Below w.heap.size w w' ∧ ∀ k,U k→w.heap.size ≤ k:=by
 obtain ⟨m,hm⟩:∃ m,m=26:=⟨_,rfl⟩
 have hm64:1664=m * 64:=by omega
 rw [hm64] at hat
 have HD:=hide (agOpen_zero w bs m hm hat)
 clear hat hm64 hm
 unfold ptrTo at *
 go_enter Tryz.func21,Tryz.ntmps21
 go_wp2_with (go_at_call 49;refine (unhide HD).mono ?_;rintro r y ⟨p,st,c,rfl,K,hs,hop,hb,hU⟩;replace K:=hide K;replace hb:=hide hb;replace hU:=hide hU)
 go_ret2
 have hb:=unhide hb
 refine ⟨y.heap.size,_,rfl,⟨p,_,_,_,_,st,c,heap_alloc_new _ _,(unhide K).below ((Below.refl _ _).alloc (Nat.le_refl _) _),hs,by rw [hop];exact onAg_zero,rfl⟩,hb.alloc hb.size _,?_⟩
 rintro k (rfl | hk)
 ·exact hb.size
 ·exact (unhide hU) k hk
end
def theAgent:AgentC 1000000000 where
 At:=CaAt
 lt:=caAt_lt
 far:=caAt_far
 submit:=caSubmit_any
 deliver:=caDeliver_any
 tick:=caTick_any
 epoch:=caEpoch_any
 spool:=caSpool_any
 opened:=caOpen_zero
end Go.Proofs.YtamafdcnbcoegabGreat
namespace Go.Proofs.YtamafdcnbcoegabGreat
open Go.RowKit
set_option maxRecDepth 100000 in
set_option maxHeartbeats 1000000 in
theorem diskImage_any {w:World} {p:Nat} {d:Mod.Dk} {lv uv:Value} (H:DkAt w p d lv uv) (keep:Int) :
  Calls Tryz.prog 128 #[ptrTo p,.int .u64 keep] w fun r w' => ∃ v',r = .returned v' ∧ Owns w.heap.size w' v' d.bytes∧Below w.heap.size w w':=by
 obtain ⟨ad,cap,hlv,_⟩:=(RowO.of_own H.row).shape
 obtain ⟨ud,ucap,huv,_⟩:=H.un.shape
 have hlen:=H.len
 have hat:BytesAt w lv d.bytes:=(show Owns 0 w lv d.bytes from H.row).at
 have HC:=hide (cloneBytes_any w lv d.bytes hat (by omega) hlen.2)
 have c0:w.cell? ⟨p,0,none⟩=some lv:=blk_cell (i:=0) H.blk
 have c1:=blk_cell (i:=1) H.blk
 simp at c1
 rw [huv] at c1
 have hpl:=lt_of_block H.blk
 rw [hlv] at c0 HC
 clear hat hlv huv H
 unfold ptrTo
 go_enter Tryz.func128,Tryz.ntmps128
 go_upto_region 2 with (go_at_call 163;refine (unhide HC).mono ?_;rintro r y ⟨v',rfl,hown,hb⟩;obtain ⟨vad,vcap,rfl,_⟩:=hown.shape)
 have c1:=(hb.cell (p:=⟨p,1,none⟩) hpl).trans c1
 have HO:=hide (And.intro hown hb)
 clear hown hb c0
 go_wp2
 go_loopw [6,7,18] (fun _ _ i wr => i = .int .i64 0∧wr=y) (fun _ _ _ _ => 0)
 case atStart => exact ⟨rfl,rfl⟩
 case round =>
  obtain ⟨rfl,rfl⟩:=hrel
  go_wp2
  go_ret
  exact ⟨_,rfl,(unhide HO).1,(unhide HO).2⟩
theorem storeImage_any {w:World} {s dp:Nat} {st:Mod.Stv} {lv uv:Value} (H:StAt w s dp st lv uv) (keep:Int) :
  Calls Tryz.prog 83 #[ptrTo s,.int .u64 keep] w fun r w' => ∃ v',r = .returned v' ∧ Owns w.heap.size w' v' st.dk.bytes∧Below w.heap.size w w':=by
 have c0:w.cell? ⟨s,0,none⟩=some (ptrTo dp):=blk_cell (i:=0) H.blk
 have HI:=hide (diskImage_any H.dk keep)
 clear H
 unfold ptrTo at *
 go_enter Tryz.func83,Tryz.ntmps83
 go_wp2_with (go_at_call 128;refine (unhide HI).mono ?_;rintro r y ⟨v',rfl,hown,hb⟩;replace hown:=hide hown;replace hb:=hide hb)
 go_ret
 exact ⟨_,rfl,unhide hown,unhide hb⟩
end Go.Proofs.YtamafdcnbcoegabGreat
namespace Go.Proofs.YtamafdcnbcoegabGreat
open Go.RowKit
set_option maxHeartbeats 1000000 in
theorem sinkImage_any {w:World} {p e:Nat} {logs:Nat→List ByteArray} {sh:Nat→List (Nat × Value)} {st:Mod.Stv} {c:Sv} (H:PkAt w p e logs sh st c) (keep:Int) :
  Calls Tryz.prog 56 #[ptrTo p,.int .u64 keep] w fun r w' => ∃ v',r = .returned v' ∧ Owns w.heap.size w' v' st.dk.bytes∧Below w.heap.size w w':=by
 have c0:w.cell? ⟨p,0,none⟩=some (ptrTo c.s):=by rw [blk_cell H.ks.blk,H.ks.a0]
 have HI:=hide (storeImage_any H.stt keep)
 clear H
 unfold ptrTo at *
 go_enter Tryz.func56,Tryz.ntmps56
 go_wp2_with (go_at_call 83;refine (unhide HI).mono ?_;rintro r y ⟨v',rfl,hown,hb⟩;replace hown:=hide hown;replace hb:=hide hb)
 go_ret
 exact ⟨_,rfl,unhide hown,unhide hb⟩
set_option maxHeartbeats 1000000 in
theorem agImage_any {w:World} {p:Nat} {g:Nat→Nat} {tk:Nat} {wel fen:Bool} {free:List Nat} {sh:Nat→List (Nat × Value)} {st:Mod.Stv} {c:Av} (H:PaAt w p g tk wel fen free sh st c) (keep:Int) :
  Calls Tryz.prog 51 #[ptrTo p,.int .u64 keep] w fun r w' => ∃ v',r = .returned v' ∧ Owns w.heap.size w' v' st.dk.bytes∧Below w.heap.size w w':=by
 have c0:w.cell? ⟨p,0,none⟩=some (ptrTo c.s):=by rw [blk_cell H.ks.blk,H.ks.a0]
 have HI:=hide (storeImage_any H.stt keep)
 clear H
 unfold ptrTo at *
 go_enter Tryz.func51,Tryz.ntmps51
 go_wp2_with (go_at_call 83;refine (unhide HI).mono ?_;rintro r y ⟨v',rfl,hown,hb⟩;replace hown:=hide hown;replace hb:=hide hb)
 go_ret
 exact ⟨_,rfl,unhide hown,unhide hb⟩
set_option maxHeartbeats 1000000 in
theorem csImageOf {w:World} {v p e:Nat} {logs:Nat→List ByteArray} {sh:Nat→List (Nat × Value)} {st:Mod.Stv} {c:Sv} (hb:w.heap[v]? = some (.cells #[ptrTo p] 79 (0,0))) (H:PkAt w p e logs sh st c) (keep:Int) :
  Calls Tryz.prog 28 #[ptrTo v,.int .u64 keep] w fun r w' => ∃ v',r = .returned v' ∧ Owns w.heap.size w' v' st.dk.bytes∧Below w.heap.size w w':=by
 have c0:w.cell? ⟨v,0,none⟩=some (ptrTo p):=blk_cell (i:=0) hb
 have HI:=hide (sinkImage_any H keep)
 clear H hb
 unfold ptrTo at *
 go_enter Tryz.func28,Tryz.ntmps28
 go_wp2_with (go_at_call 56;refine (unhide HI).mono ?_;rintro r y ⟨v',rfl,hown,hb⟩;replace hown:=hide hown;replace hb:=hide hb)
 go_ret
 exact ⟨_,rfl,unhide hown,unhide hb⟩
set_option maxHeartbeats 1000000 in
theorem caImageOf {w:World} {v p:Nat} {g:Nat→Nat} {tk:Nat} {wel fen:Bool} {free:List Nat} {sh:Nat→List (Nat × Value)} {st:Mod.Stv} {c:Av} (hb:w.heap[v]? = some (.cells #[ptrTo p] 76 (0,0))) (H:PaAt w p g tk wel fen free sh st c) (keep:Int) :
  Calls Tryz.prog 23 #[ptrTo v,.int .u64 keep] w fun r w' => ∃ v',r = .returned v' ∧ Owns w.heap.size w' v' st.dk.bytes∧Below w.heap.size w w':=by
 have c0:w.cell? ⟨v,0,none⟩=some (ptrTo p):=blk_cell (i:=0) hb
 have HI:=hide (agImage_any H keep)
 clear H hb
 unfold ptrTo at *
 go_enter Tryz.func23,Tryz.ntmps23
 go_wp2_with (go_at_call 51;refine (unhide HI).mono ?_;rintro r y ⟨v',rfl,hown,hb⟩;replace hown:=hide hown;replace hb:=hide hb)
 go_ret
 exact ⟨_,rfl,unhide hown,unhide hb⟩
set_option maxRecDepth 100000 in
set_option maxHeartbeats 4000000 in
theorem sinkDeliver_deaf {w:World} {p e:Nat} {logs:Nat→List ByteArray} {sh:Nat→List (Nat × Value)} {st:Mod.Stv} {c:Sv} (H:PkAt w p e logs sh st c) (hs:st.dk.dead=false) (bs:Value) (l:List UInt8) (hat:BytesAt w bs l) (hr:Wire.reads l=false) :
  Calls Tryz.prog 44 #[ptrTo p,bs] w fun r z => r = .returned (.tuple #[.slice none 0 0,.int .i64 1])∧Below w.heap.size w z:=by
 have c0:w.cell? ⟨p,0,none⟩=some (ptrTo c.s):=by rw [blk_cell H.ks.blk,H.ks.a0]
 have hID:=storeIsDead_any H.stt
 rw [hs] at hID
 have HID:=hide hID
 have hDC:=decode_any bs l w hat
 rw [hr] at hDC
 simp only [Bool.false_eq_true,if_false,zeroFr] at hDC
 have HDC:=hide hDC
 clear H hID hDC
 unfold ptrTo at *
 go_enter Tryz.func44,Tryz.ntmps44
 go_wp2_with (first | (go_at_call 66;refine (unhide HID).mono ?_;rintro r y ⟨rfl,rfl⟩) | (go_at_call 69;refine (unhide HDC).mono ?_;rintro r y ⟨rfl,hb⟩;replace hb:=hide hb))
 go_ret2
 exact ⟨rfl,(unhide hb).alloc (unhide hb).size _⟩
end Go.Proofs.YtamafdcnbcoegabGreat
