/-
  Part 6 of a proof: S10, S11, S12, S7U, S8U, S7I, S8I, S9I, S7S, S8S, F2, F3, K1.
-/
import Derived.RangeFuncNested
import Derived.RangeFuncBound
import Derived.RangeFuncCalls
import Derived.RangeFuncLeaves
import Derived.Shelf.Abstract
import Derived.Shelf.RegionOpen
import Derived.OwnWalkIn
import Derived.TacticsInMore
import Derived.LoopNIn
import Derived.LoopIn
import Derived.Test.YtamafdcnbcoegaaGreatSf5
set_option maxRecDepth 100000
set_option maxHeartbeats 40000000
namespace Go.Proofs.YtamafdcnbcoegaaGreat
open Go.RowKit
def df' (w:World) (p o:Nat) (m:Int):World:=(w.alloc (.cells #[.pointer (some ⟨p,o,none⟩)] 209)).alloc (.cells #[.int .i64 m] 3)
def rB' (b:Nat):Value:= .func (.func 189) #[] #[.pointer (some ⟨b,0,none⟩), .pointer (some ⟨b+1,0,none⟩)]
theorem kp' (p o:Nat) (m:Int) (w:World):
  Calls Tryz.prog 137 #[.pointer (some ⟨p,o,none⟩), .int .i64 m] w fun e w'=>e= .returned (rB' w.heap.size)/\w'=df' w p o m:=by
 go_enter Tryz.func137,Tryz.ntmps137;go_wp2;go_ret;exact⟨rfl,rfl⟩
theorem tw' {w:World} {p o:Nat} {arr:Array Value} {t:TypeId} {nv mv:Value} {l:List (Nat×Value)} (f:w.heap[p]? =some (.cells arr t (0,0))) (h0:arr[o]? =some nv) (S:aJ' w nv mv l):
  Calls Tryz.prog 97 #[.pointer (some ⟨p,o,none⟩)] w fun e w'=>e= .returned (rB' w.heap.size)/\w'=df' w p o l.length:=by
 have r:=t' (op' f h0 S);clear S f h0;go_enter Tryz.func97,Tryz.ntmps97;go_wp2_with (first|(go_at_call 143;refine(i' r).mono ?_;rintro e w' ⟨rfl,rfl⟩)|(go_at_call 137;refine(kp' _ _ _ _).mono ?_;rintro e w' ⟨rfl,rfl⟩));go_ret;exact⟨rfl,rfl⟩
attribute [local go_sem] Oper.semAt_some
structure ne' (W:World) (b p o:Nat) (m:Nat) (nv mv:Value) (l:List (Nat×Value)):Prop where
 c1:W.cell? ⟨b,0,none⟩=some (.pointer (some ⟨p,o,none⟩))
 c2:W.cell? ⟨b+1,0,none⟩=some (.int .i64 m)
 s0:W.cell? ⟨p,o,none⟩=some nv
 s1:W.cell? ⟨p,o+1,none⟩=some mv
 sh:aJ' W nv mv l
theorem uJ' {l:List (Nat×Value)} (hs:(l.map (·.1)).Pairwise (· < ·)) {k:Nat} (r:k < l.length):an' l (l[k].1:Int)=some l[k].2:=by
 induction l generalizing k with
 |nil=>simp at r
 |cons x f ih=>
  rw[List.map_cons,List.pairwise_cons]at hs;obtain⟨h0,hs⟩:=hs;cases k with
  |zero=>rw[bQ',List.getElem_cons_zero,if_pos rfl]
  |succ k=>
   have u:k < f.length:=by simpa using r
   rw[bQ',List.getElem_cons_succ,if_neg,ih hs u];have:=h0 f[k].1 (List.mem_map.2 ⟨f[k],List.getElem_mem u,rfl⟩);omega
theorem tx' (n M b p o m:Nat) (nv mv:Value) (l:List (Nat×Value)) (A:na' l) (f:Nat->World->Prop) (O:World->Prop)
  (Q:∀i W,f i W->ne' W b p o m nv mv l) (U:∀i W k,f i W->f i (W.drewN k))
  (Z:∀i W (h:i < l.length),i < m->f i W->YieldAt Fence.wide (n - 1) Tryz.prog M #[.int .i64 (l[i].1:Nat),l[i].2] W fun e u=>(e= .returned (.bool true)/\f (i+1) u)\/(e= .returned (.bool false)/\O u))
  (W:World) (h0:f 0 W):
  CallsIn Fence.wide n Tryz.prog 189 #[.func (.yield M) #[] #[], .pointer (some ⟨b,0,none⟩), .pointer (some ⟨b+1,0,none⟩)] W fun e u=>(∃v,e= .returned v)/\(f (min m l.length) u\/O u):=by
 have R:=Q 0 W h0;obtain⟨c1,c2,s0,s1,S⟩:=R;have ak:=S.len;have H:(l.map (·.1)).length=l.length:=List.length_map _;obtain⟨r,F⟩:∃r,r=min m l.length:=⟨_,rfl⟩;rw[<-F];have aa:r<=m:=by omega
 have V:r<=l.length:=by omega
 have ab:min (m:Int) (l.length:Int)=r:=by omega
 refine callsIn_of_wp Tryz.func189 rfl trivial ?_ rfl;refine wpIn_wide.2 ?_;simp only[Tryz.ntmps189,List.size_toArray,List.length_cons,List.length_nil,Nat.reduceAdd,Nat.reduceSub,Array.replicate_succ,Array.replicate_zero,List.push_toArray,List.append_toArray,List.nil_append,List.cons_append];rcases S.nums.cases with ⟨G,X⟩|⟨g,cap,ao,G,ap,ac,aq,au,ad⟩
 ·subst G;obtain rfl:l=[]:=by simpa using X
  obtain rfl:r=0:=by simpa using V
  have av:min (m:Int) 0=0:=by omega
  clear S H ab F aa V X;go_wp2;go_quiet (fail);go_wp2;go_loopw[5,19] (fun _ i wr=>i= .int .i64 0/\f 0 wr) (fun _ _ _=>0)
  case atStart=>exact⟨rfl,U 0 W _ h0⟩
  case round=>obtain⟨rfl,z⟩:=hrel;go_wp2;refine bodyPost_end (results_none rfl _ _ _) rfl ?_;exact⟨⟨_,rfl⟩, .inl z⟩
 ·rw[H]at G ac;subst G;clear S ad H;replace F:=t' F;go_wp2;go_quiet (fail);go_wp2;go_loopw[5,19] (fun _ i wr=>∃k:Nat,k<=r/\i= .int .i64 k/\f k wr) (fun _ i _=>l.length - (intOf i).toNat)
  case atStart=>exact⟨0,by omega,rfl,U 0 W _ h0⟩
  case round=>
   obtain⟨k,ax,rfl,z⟩:=hrel;by_cases ay:k < r
   ·have D:k < l.length:=by omega
    obtain⟨c1,c2,s0,s1,S⟩:=Q k wr z;obtain⟨az,aA,I⟩:=A l[k] (List.getElem_mem D);have aB:wr.cell? ⟨g,k,none⟩=some (.int .i64 (l[k].1:Int)):=by rw[S.nums.cell' (by simpa using D)];simp[List.getD_eq_getElem?_getD,D]
    have Y:=(bf' (P:=Tryz.prog) (w:=wr) (t:=137) Tryz.underlying137 Tryz.underlying3 (qq' wr) S.map (l[k].1:Int)).2;rw[uJ' S.sorted D,I]at Y;have J:=Z k wr D (by omega) z;rw[I]at J;simp only[Option.getD_some,bZ']at Y J;obtain⟨fn,tmps,assign,body,aC,ah⟩:=J;clear S I;generalize l[k].1=aD at *;go_upto_region 3 with fail;refine(wpIn_wide (n:=n)).1 ?_;gi_wp2;refine⟨fun h=>by simp[Fence.wide]at h,ah.mono ?_⟩;rintro e aE (⟨rfl,ai⟩|⟨rfl,aj⟩)
    ·gi_wp2
     go_wp2;go_roundw
     case rel=>exact⟨k+1,by omega,by go_num,ai⟩
     case measure=>simp[intOf];omega
    ·gi_wp2
     go_wp2;refine bodyPost_ret (results_none rfl _ _ _) rfl ?_;exact⟨⟨_,rfl⟩, .inr aj⟩
   ·obtain rfl:k=r:=by omega
    go_wp2;refine bodyPost_end (results_none rfl _ _ _) rfl ?_;exact⟨⟨_,rfl⟩, .inl z⟩
end Go.Proofs.YtamafdcnbcoegaaGreat
namespace Go.Proofs.YtamafdcnbcoegaaGreat
open Go.RowKit
structure oB' (D:Nat) (W W':World):Prop where
 os:W'.os=W.os
 tape:W'.tape=W.tape
 output:W'.output=W.output
 size:W'.heap.size=W.heap.size
 rest:∀k,k≠D->k≠D+1->W'.heap[k]? =W.heap[k]?
theorem iA' (f:Nat) (W:World) (o:Obj):oB' f W (W.putObj (f+1) o):=
 ⟨rfl,rfl,rfl,World.putObj_size,fun _ _ h=>World.putObj_heap_other h⟩
theorem qt' (f:Nat) (W:World) (n:Nat):oB' f W (W.drewN n):=⟨rfl,rfl,rfl,rfl,fun _ _ _=>rfl⟩
def ty' (f:Nat) (u:World->Prop) (W:World):Exit->Act->World->Prop
 | .normal,_,r=>r.heap[f]? =W.heap[f]? /\r.heap[f+1]? =W.heap[f+1]? /\u r
 | _,_,_=>False
theorem jg' {g:Operand} {I:Array Tmp} {assign body:Code} {X:Exit->Act->World->Prop} {a:Act} {w:World} (n b p o m:Nat) (nv mv:Value) (l:List (Nat×Value)) (A:na' l)
  (ad:a.eval g=rB' b) (ah:I.size=2) (r:Nat->World->Prop) (M:∀i W J,r i W->oB' w.heap.size W J->r i J) (ai:∀i W,r i W->ne' W b p o m nv mv l)
  (h0:∀W,Below w.heap.size w W->W.heap.size=w.heap.size+2->r 0 W)
  (aj:∀i (hi:i < l.length) W,i < m->r i W->w.heap.size+2<=W.heap.size->
   assign.wpIn (Fence.wide.inRound (w.heap.size+1)) (n - 1 - 1) Tryz.prog (Exit.then (fun Y u=>(u.heap[w.heap.size]? =W.heap[w.heap.size]? /\u.heap[w.heap.size+1]? =W.heap[w.heap.size+1]?)/\
     ∀O,oB' w.heap.size u O->body.wpIn (Fence.wide.inRound (w.heap.size+1)) (n - 1 - 1) Tryz.prog (ty' w.heap.size (r (i+1)) O) Y O) (fun _ _ _=>False))
    {tmps:=(I.zip #[.int .i64 (l[i].1:Nat),l[i].2]).foldl (fun t (p,v)=>t.setIfInBounds p v) a.tmps,defers:=[]} W)
  (ak:∀i W,r i W->w.heap.size+2<=W.heap.size)
  (ao:∀W,r (min m l.length) W->W.heap[w.heap.size]? =some (.deferred (some []))->X .normal {a with defers:={target:= .collected w.heap.size,args:= #[]}::a.defers} W):
  (Code.rangeFunc g I assign body).wpIn Fence.wide n Tryz.prog X a w:=by
 refine wpIn_rangeFunc ?_;intro fn ap;obtain⟨z,D⟩:∃z:LoopState->Loop,z=fun st=>{state:=st,pending:=none,fn,tmps:=a.tmps,params:=I,assign,body,defers:=w.heap.size}:=⟨_,rfl⟩;obtain⟨f,H⟩:∃f,(w.alloc (.deferred (some []))).alloc (.loop (z .ready))=f:=⟨_,rfl⟩;have aq:f.heap[w.heap.size+1]? =some (.loop (z .ready)):=by rw[<-H];have:=World.alloc_heap_new (w.alloc (.deferred (some []))) (.loop (z .ready));rwa [World.size_alloc]at this
 have au:f.heap[w.heap.size]? =some (.deferred (some [])):=by rw[<-H];exact(Below.heap_alloc _ _ _ (by simp)).trans (World.alloc_heap_new w _)
 have av:Below w.heap.size w f:=by rw[<-H];exact((Below.refl _ w).alloc (Nat.le_refl _) _).alloc (by simp) _
 have ax:f.heap.size=w.heap.size+2:=by rw[<-H];simp
 have ay:∀args w,(callFunc 189 args).run Tryz.prog w= .ok (.enter 189 args) w:=enters_of Tryz.func189 (by kernel_rfl) rfl;refine⟨w.heap.size+1,[{target:= .collected w.heap.size,args:= #[]}],f,{target:= .fn (.func 189) #[.pointer (some ⟨b,0,none⟩), .pointer (some ⟨b+1,0,none⟩)],args:= #[.func (.yield (w.heap.size+1)) #[] #[]]},f,189,
  #[.func (.yield (w.heap.size+1)) #[] #[], .pointer (some ⟨b,0,none⟩), .pointer (some ⟨b+1,0,none⟩)],f,?_,?_,?_,?_,fun h=>by simp[Fence.wide]at h,?_⟩
 ·rw[<-H,D];exact run_enterLoop_outer _ _ _ _ _
 ·simp only[resolve,ad];simp[go_sem,rB']
 ·intro aI _;trivial
 ·simp[invoke,go_sem,ay]
 ·refine(tx' (n - 1) (w.heap.size+1) b p o m nv mv l A
   (fun i W=>r i W/\W.heap[w.heap.size+1]? =some (.loop (z .ready))/\W.heap[w.heap.size]? =some (.deferred (some []))) (fun _=>False)
   (fun i W h=>ai i W h.1) (fun i W k h=>⟨M i W _ h.1 (qt' _ W k),h.2.1,h.2.2⟩) ?_ f ⟨h0 f av ax,aq,au⟩).mono ?_
  ·rintro i W hi az ⟨Z,hl,Q⟩;have aJ:w.heap.size+1 < W.heap.size:=(Array.getElem?_eq_some_iff.1 hl).1;have aa:=run_yield (P:=Tryz.prog) (args:= #[.int .i64 (l[i].1:Nat),l[i].2]) hl (by rw[D];simpa using ah.symm);rw[D]at aa;refine⟨fn,_,assign,body,aa,roundIn_of_wpIn ap (wpIn_mono (aj i hi W az Z (ak i W Z)) ?_)⟩;rintro e Y u F;cases e with
   |normal=>
    obtain⟨⟨aA,U⟩,aB⟩:=F;have ab:u.heap[w.heap.size+1]? =some (.loop (z .ready)):=U.trans hl;have aC:u.heap[w.heap.size]? =some (.deferred (some [])):=aA.trans Q;have aD:w.heap.size+1 < u.heap.size:=(Array.getElem?_eq_some_iff.1 ab).1;refine⟨_,run_beginRound ab (by rw[D]),wpIn_mono (aB _ (iA' _ u _)) ?_⟩;rintro U aK V G;cases U with
    |normal=>
     obtain⟨aE,aF,aG⟩:=G;have ac:V.heap[w.heap.size+1]? =some (.loop {z .ready with state:= .busy}):=aF.trans (World.putObj_heap_same aD);have aH:V.heap[w.heap.size]? =some (.deferred (some [])):=(aE.trans (World.putObj_heap_other (by omega))).trans aC;refine⟨_,_,run_endRound none ac, .inl ⟨rfl,M _ _ _ aG (iA' _ V _),?_,?_⟩⟩
     ·rw[World.putObj_heap_same (Array.getElem?_eq_some_iff.1 ac).1,D];rfl
     ·exact(World.putObj_heap_other (by omega)).trans aH
    |ret=>exact G.elim
    |exit id=>exact G.elim
    |goto t=>exact G.elim
    |panic c=>exact G.elim
    |outgrown=>exact G.elim
   |ret=>exact F.elim
   |exit id=>exact F.elim
   |goto t=>exact F.elim
   |panic c=>exact F.elim
   |outgrown=>exact F.elim
  ·rintro e J ⟨⟨v,rfl⟩,⟨hi,hl,Q⟩|h⟩
   ·have:=run_endLoop (P:=Tryz.prog) hl (by rw[D];simp);rw[D]at this;exact⟨none,_,this,ao _ (M _ _ _ hi (iA' _ J _)) ((World.putObj_heap_other (by omega)).trans Q)⟩
   ·exact h.elim
def cF':Value:= .agg #[]
def vt':Value:= .agg #[]
theorem vK' (w:World):(zeroValue 225).run Tryz.prog w= .ok vt' w:=Tryz.zeroValue225 w
def nf' (l:List (Nat×Value)):Prop:=∀x∈l,x.2=cF'
theorem so' {l:List (Nat×Value)} (h:nf' l) (k:Int):(an' l k=some (cF'))\/an' l k=none:=by
 cases f:an' l k with
 |none=>exact .inr rfl
 |some v=>obtain⟨x,r,_,rfl⟩:=cZ' f;have e:=h x r;exact .inl (by rw[e])
theorem tz' {w:World} {p o:Nat} {arr:Array Value} {t:TypeId} {nv mv:Value} {l:List (Nat×Value)} (f:w.heap[p]? =some (.cells arr t (0,0))) (h1:arr[o+1]? =some mv) (S:aJ' w nv mv l) (A:nf' l) (n:Int):
  Calls Tryz.prog 190 #[.pointer (some ⟨p,o,none⟩), .int .i64 n] w fun e w'=>e= .returned (.bool (an' l n).isSome)/\Below w.heap.size w w':=by
 have c1:w.cell? ⟨p,o+1,none⟩=some mv:=(m' f).trans h1;have r:=(bf' (P:=Tryz.prog) (w:=w) (t:=143) Tryz.underlying143 Tryz.underlying3 (vK' w) S.map n).1;clear S f h1;rcases so' A n with ⟨h⟩|h;all_goals
  rw[h]at r ⊢;simp only[Option.getD_some,Option.getD_none,Option.isSome_some,Option.isSome_none,cF',vt']at r ⊢;clear h A;go_enter Tryz.func190,Tryz.ntmps190;go_wp2;go_ret;refine⟨rfl,?_⟩;exact(Below.refl _ _).alloc (Nat.le_refl _) _
theorem tA' {w:World} {p o:Nat} {t:TypeId} {arr:Array Value} {nv mv:Value} {l:List (Nat×Value)} (S:ew' w p o t arr nv mv l) (hl:l.length < 1000) (n:Nat):
  Calls Tryz.prog 156 #[.pointer (some ⟨p,o,none⟩), .int .i64 n,cF'] w fun e w'=>e= .returned (.tuple #[])/\bY' w w' p o t arr nv mv (aV' l n (cF')):=by
 obtain⟨O,h0,h1,S,Q⟩:=S;obtain⟨az,Z⟩:∃m,m=mv:=⟨_,rfl⟩;rw[<-Z];have Z:=t' Z;have c0:w.cell? ⟨p,o,none⟩=some nv:=(m' O).trans h0;have c1:w.cell? ⟨p,o+1,none⟩=some mv:=(m' O).trans h1;unfold cF';have aA:=lt_of_block O;go_enter Tryz.func156,Tryz.ntmps156;go_upto_region 1 with fail;refine C' (fun x=>x.heap[p]? =some (.cells arr t (0,0))/\x.heap[w.heap.size]? =some (.cells #[] 225 (0,0))/\aJ' x nv mv l/\Far (fun _=>False) w x/\w.heap.size < x.heap.size) ?_ ?_
 ·have D:Far (fun _=>False) w (w.alloc (.cells #[] 225)):=A' ((Below.refl _ _).alloc (Nat.le_refl _) _);exact⟨D.blk O id,heap_alloc_new w _,S.far D (fun _ _ h=>h),D,by simp⟩
 clear c0 c1 S;rintro x ⟨r,F,S,D,J⟩;have c0:x.cell? ⟨p,o,none⟩=some nv:=(m' r).trans h0;have c1:x.cell? ⟨p,o+1,none⟩=some mv:=(m' r).trans h1;have aB:x.frozen? ⟨p,o+1,none⟩=false:=by simp[World.frozen?,r]
 have aC:= @run_makeMap Tryz.prog;have aD:∀y:World,(binOp .eql 143 (.map none) (.map none)).run Tryz.prog y= .ok (.bool true) y:=fun y=>by kernel_rfl
 have aE:∀ (y:World) (m:Nat),(binOp .eql 143 (.map (some m)) (.map none)).run Tryz.prog y= .ok (.bool false) y:=fun y m=>by kernel_rfl
 have aa:(x.alloc (.map #[] 0)).heap[p]? =some (.cells arr t (0,0)):=(Below.heap_alloc x _ p (lt_of_block r)).trans r;have aF:(x.alloc (.map #[] 0)).cell? ⟨p,o+1,none⟩=some mv:=(m' aa).trans h1;have aG:(x.alloc (.map #[] 0)).frozen? ⟨p,o+1,none⟩=false:=by simp[World.frozen?,aa]
 rcases S.map with ⟨rfl,ab⟩|⟨M,rfl,ab⟩;all_goals
  go_upto_region 3 with fail
  refine C' (fun y=>∃M,y.heap[p]? =some (.cells (arr.setIfInBounds (o+1) (.map (some M))) t (0,0))/\y.heap[w.heap.size]? =some (.cells #[] 225 (0,0))/\aF' y nv (l.map (·.1))/\aT' y M (an' l)/\
   Far (fun k=>k=p) w y/\w.heap.size < y.heap.size/\(aQ' az=some M\/w.heap.size<=M)) ?_ ?_
 ·refine⟨x.heap.size,af' aa,(S' (by omega)).trans ((Below.heap_alloc x _ _ J).trans F),?_,?_,?_,?_, .inr (Nat.le_of_lt J)⟩
  ·exact S.nums.keep (fun g G=>(S' (fun e=>S.ne r Q (.inl (by rw[<-e];exact G)))).trans (Below.heap_alloc x _ g (World.ownsRow.lt S.nums g G).2))
  ·rw[ab];exact(fS' x).keep (S' (by have:=lt_of_block r;omega))
  ·exact((D.mono (fun _ _ h=>h.elim)).trans (A' ((Below.refl _ x).alloc (Nat.le_refl _) _)) (fun _ _ h=>h)).trans (O' _ p (o+1) _) (fun _ _ h=>h)
  ·simp;omega
 rotate_left
 ·refine⟨M,by rw[bb' h1];exact r,F,S.nums,ab,D.mono (fun _ _ h=>h.elim),J, .inl (by rw[i' Z];rfl)⟩
 all_goals
  have hs:=t' S.sorted;clear c0 c1 aa aF aG aB F S ab r J aC aD aE D aA;rintro y ⟨u,r,F,N,z,au,J,av⟩;have ax:o < arr.size:=(Array.getElem?_eq_some_iff.1 h0).1;have U:o+1 < arr.size:=(Array.getElem?_eq_some_iff.1 h1).1;have a0:(arr.setIfInBounds (o+1) (.map (some u)))[o]? =some nv:=by rw[Array.getElem?_setIfInBounds_ne (by omega)];exact h0
  have a1:(arr.setIfInBounds (o+1) (.map (some u)))[o+1]? =some (.map (some u)):=by simp[U]
  have c0:y.cell? ⟨p,o,none⟩=some nv:=(m' r).trans a0;have H:=fV' (v:=cF') (n:=n) (i' hs);have I:=cu' N (i' hs) (by simp;omega) n;have ai:(l.map (·.1)).countP (· < n)<=(l.map (·.1)).length:=List.countP_le_length;have aH:(l.map (·.1)).length < 1000:=by simpa using hl
  generalize (l.map (·.1)).countP (· < n)=k at H I ai;generalize (l.map (·.1)).contains n=c at H I;generalize l.map (·.1)=ns at H I ai N aH;replace H:=t' H;replace I:=t' I;cases c
  ·go_upto_region 4 with (go_at_call 132;refine(i' I).mono ?_;rintro e aI ⟨rfl,q,rfl⟩)
   go_upto_region 6 with fail
   refine(eL' (w:=(y.drewN q).alloc (.cells #[.int .i64 n] 3)) (ns:=ns) (N.keep (fun g G=>Below.heap_alloc (y.drewN q) _ g (World.ownsRow.lt N g G).2)) (by omega) k n y.heap.size ai (heap_alloc_new (y.drewN q) _) (fun e=>by have:=(World.ownsRow.lt N _ e).2;omega)).mono ?_;rintro e f ⟨nv',rfl,ac,ad,aJ⟩;have ah:=ad.blk ((Below.heap_alloc (y.drewN q) _ p (lt_of_block r)).trans r) (fun e=>(ao'.of_own N).ne r (fun e=>Q e.symm) e);have aK:=ad.blk ((Below.heap_alloc (y.drewN q) _ _ J).trans F) (fun e=>(ao'.of_own N).ne F (by decide) e);have aQ:=(m' ah).trans a0;have aR:f.frozen? ⟨p,o,none⟩=false:=by simp[World.frozen?,ah]
   obtain⟨aL,V⟩:∃x,x=ns.take k++n::ns.drop k:=⟨_,rfl⟩;rw[<-V]at ac;obtain⟨g',aM,rfl⟩:=fP' ac (by rw[V];simp only[List.length_append,List.length_cons];omega);replace V:=t' V;go_upto_region 6 with fail;refine C' (fun f=>∃nv',f.heap[p]? =some (.cells ((arr.setIfInBounds o nv').setIfInBounds (o+1) (.map (some u))) t (0,0))/\f.heap[w.heap.size]? =some (.cells #[] 225 (0,0))/\aF' f nv' ((aV' l n (cF')).map (·.1))/\aT' f u (an' l)/\
    Far (fun k=>k=p\/nv.ownBlock=some k) w f/\Loc w nv nv') ?_ ?_
   ·have aN:nv.ownBlock≠some u:=N.notMap z;have aO:∀g,(Value.slice (some ⟨g',0,none⟩) aL.length aM).ownBlock=some g->g≠p:=fun g G e=>(ao'.of_own ac).ne ah (fun e=>Q e.symm) (by rw[G,e]);have X:=i' H;simp only[Bool.false_eq_true,if_false]at X;have ay:Far (fun _=>False) y ((y.drewN q).alloc (.cells #[.int .i64 n] 3)):=(ag' (fun _=>False) y q).trans (A' ((Below.refl _ _).alloc (Nat.le_refl _) _)) (fun _ _ h=>h);have aP:Far (fun b=>b=p\/nv.ownBlock=some b) w f:=(au.mono (fun _ _ h=> .inl h)).trans ((ay.mono (fun _ _ h=>h.elim)).trans ad (fun _ _ h=>h)) (fun _ _ h=> .inr h);refine⟨_,?_,(S' (by have:=lt_of_block O;omega)).trans aK,?_,?_,aP.trans (O' f p o _) (fun _ _ h=> .inl h),bw' aJ (by simp;omega)⟩
    ·rw[set_comm _ _ (show o≠o+1 by omega)];exact af' ah
    ·rw[X,<-i' V];exact ac.keep (fun g G=>S' (aO g G))
    ·exact z.keep ((S' (fun e=>z.not_cells (by rw[e];exact r))).trans ((ad.rest _ (by have:=z.lt;simp;omega) aN).trans (ay.rest _ z.lt id)))
   ·skip
    rintro f ⟨nv',r,F,aj,z,D,ak⟩;obtain⟨Y,ao,ap⟩:=bu' (P:=Tryz.prog) (w:=f) (t:=143) Tryz.underlying143 Tryz.underlying3 z n (cF');have aq:=ao f.drew rfl;unfold cF' at aq;have c1:f.cell? ⟨p,o+1,none⟩=some (.map (some u)):=(m' r).trans (by simp[U]);go_region;refine bodyPost_end (results_none rfl _ _ _) rfl ⟨rfl,?_⟩;exact dX' (v:=cF') (W:={f.drew with heap:=f.drew.heap.setIfInBounds u Y}) ax U r Q aj z D ak av ap ((ag' _ f 1).trans (aW' u Y) (fun _ _ h=>h)) (i' hs) hl
  ·go_upto_region 4 with (go_at_call 132;refine(i' I).mono ?_;rintro e aI ⟨rfl,q,rfl⟩)
   go_upto_region 6 with fail
   refine C' (fun f=>∃nv',f.heap[p]? =some (.cells ((arr.setIfInBounds o nv').setIfInBounds (o+1) (.map (some u))) t (0,0))/\f.heap[w.heap.size]? =some (.cells #[] 225 (0,0))/\aF' f nv' ((aV' l n (cF')).map (·.1))/\aT' f u (an' l)/\
    Far (fun k=>k=p\/nv.ownBlock=some k) w f/\Loc w nv nv') ?_ ?_
   ·have X:=i' H;simp only[if_true]at X;refine⟨nv,?_,F,by rw[X];exact N,z,(au.mono (fun _ _ h=> .inl h)).trans (ag' _ y q) (fun _ _ h=>h), .inr (.inl rfl)⟩;rw[bb' h0];exact r
   ·skip
    rintro f ⟨nv',r,F,aj,z,D,ak⟩;obtain⟨Y,ao,ap⟩:=bu' (P:=Tryz.prog) (w:=f) (t:=143) Tryz.underlying143 Tryz.underlying3 z n (cF');have aq:=ao f.drew rfl;unfold cF' at aq;have c1:f.cell? ⟨p,o+1,none⟩=some (.map (some u)):=(m' r).trans (by simp[U]);go_region;refine bodyPost_end (results_none rfl _ _ _) rfl ⟨rfl,?_⟩;exact dX' (v:=cF') (W:={f.drew with heap:=f.drew.heap.setIfInBounds u Y}) ax U r Q aj z D ak av ap ((ag' _ f 1).trans (aW' u Y) (fun _ _ h=>h)) (i' hs) hl
theorem kq' {w:World} {p o:Nat} {t:TypeId} {arr:Array Value} {nv mv:Value} {l:List (Nat×Value)} (S:ew' w p o t arr nv mv l):
  Calls Tryz.prog 154 #[.pointer (some ⟨p,o,none⟩)] w fun e w'=>e= .returned (.tuple #[])/\bY' w w' p o t arr nv mv []:=by
 obtain⟨F,h0,h1,S,J⟩:=S;have U:o < arr.size:=(Array.getElem?_eq_some_iff.1 h0).1;have V:o+1 < arr.size:=(Array.getElem?_eq_some_iff.1 h1).1;obtain⟨G,u⟩:∃m,m=mv:=⟨_,rfl⟩;rw[<-u];replace u:=t' u;have c1:w.cell? ⟨p,o+1,none⟩=some mv:=(m' F).trans h1;have Z:=S.nums.cases;have z:(mv= .map none/\∀ty,(Builtin.clear_ #[143] ty #[.map none]).run Tryz.prog w= .ok (.tuple #[]) w)\/
   ∃b o,mv= .map (some b)/\b≠p/\nv.ownBlock≠some b/\(∀ty,(Builtin.clear_ #[143] ty #[.map (some b)]).run Tryz.prog w= .ok (.tuple #[]) {w with heap:=w.heap.setIfInBounds b o})/\aT' {w with heap:=w.heap.setIfInBounds b o} b (fun _=>none):=by
  rcases S.map with ⟨rfl,z⟩|⟨H,rfl,z⟩
  ·exact .inl ⟨rfl,fun ty=>fm' Tryz.underlying143⟩
  ·obtain⟨M,aa,O⟩:=fl' (P:=Tryz.prog) (w:=w) (t:=143) Tryz.underlying143 z;exact .inr ⟨H,M,rfl,fun e=>z.not_cells (by rw[e];exact F),S.nums.notMap z,fun ty=>aa ty w rfl,O⟩
 rcases z with ⟨rfl,ab⟩|⟨H,M,rfl,ac,ad,ab,O⟩;all_goals
  go_enter Tryz.func154,Tryz.ntmps154;go_upto_region 1 with fail;refine C' (fun x=>x.heap[p]? =some (.cells arr t (0,0))/\aF' x nv (l.map (·.1))/\jw' x G (an' [])/\Far (fun k=>k=p\/ShU nv G k) w x) ?_ ?_
 ·exact⟨F,S.nums,by rw[i' u];exact .inl ⟨rfl,dz'⟩,Far.refl _ _⟩
 rotate_left
 ·have D:=aW' (w:=w) H M;refine⟨D.blk F (fun e=>ac e.symm),S.nums.keep (fun g X=>D.rest g (World.ownsRow.lt S.nums g X).2 (fun e=>ad (by rw[X,e]))),by rw[i' u];exact .inr ⟨H,rfl,by rw[dz'];exact O⟩,D.mono (fun k _ e=> .inr (.inr (by rw[i' u,e];rfl)))⟩
 all_goals
  clear S;rintro x ⟨f,N,I,D⟩;have c0:x.cell? ⟨p,o,none⟩=some nv:=(m' f).trans h0;have ao:x.frozen? ⟨p,o,none⟩=false:=by simp[World.frozen?,f]
  rcases Z with ⟨rfl,_⟩|⟨g,cap,ap,rfl,aq,au,ah,av,ax⟩
  ·go_wp2;refine bodyPost_end (results_none rfl _ _ _) rfl ⟨rfl,?_⟩;refine⟨⟨_,G,⟨?_,?_,?_,⟨bJ' _,I.keep (fun b r=>S' (fun e=>?_)),by simp,by simp⟩,J⟩, .inr (.inl rfl), .inl rfl⟩,D.trans (O' x p o _) (fun _ _ h=> .inl h)⟩
   ·have:=af' (j:=o) (v:= .slice none 0 0) f;rw[bb' (i:=o+1)]
    ·exact this
    ·rw[Array.getElem?_setIfInBounds_ne (by omega),h1,i' u]
   ·rw[Array.getElem?_setIfInBounds_ne (by omega)];simp[U]
   ·simp[V]
   ·rcases I with ⟨h,_⟩|⟨ai,h,Q⟩
    ·rw[h]at r;cases r
    ·rw[h]at r;cases r;exact Q.not_cells (by rw[e];exact f)
  ·go_wp2;refine bodyPost_end (results_none rfl _ _ _) rfl ⟨rfl,?_⟩;rcases N.cases with ⟨h,_⟩|⟨g',ay,az,h,Y,aA,aB,aj,aC⟩
   ·cases h
   ·injection h with h _ h3;injection h with h;injection h with h;subst h h3;have ak:g≠p:=fun e=>by subst e;rw[Y]at f;injection f with f;injection f with _ f _;exact J f.symm
    refine⟨⟨_,G,⟨?_,?_,?_,⟨fT' (ns:=[]) ((S' ak).trans Y) (Nat.zero_le _) ah aj rfl,I.keep (fun b r=>S' (fun e=>?_)),by simp,by simp⟩,J⟩, .inr (.inl rfl), .inl rfl⟩,D.trans (O' x p o _) (fun _ _ h=> .inl h)⟩
    ·rw[bb' (i:=o+1)]
     ·exact af' (j:=o) f
     ·rw[Array.getElem?_setIfInBounds_ne (by omega),h1,i' u]
    ·rw[Array.getElem?_setIfInBounds_ne (by omega)];simp[U]
    ·simp[V]
    ·rcases I with ⟨h,_⟩|⟨ai,h,Q⟩
     ·rw[h]at r;cases r
     ·rw[h]at r;cases r;exact Q.not_cells (by rw[e];exact f)
def dm' (m:Nat):Value:= .int .i64 m
def rC':Value:= .int .i64 0
theorem tB' (w:World):(zeroValue 3).run Tryz.prog w= .ok rC' w:=Tryz.zeroValue3 w
def kr' (l:List (Nat×Value)):Prop:=∀x∈l,∃m,x.2=dm' m
theorem sp' {l:List (Nat×Value)} (h:kr' l) (k:Int):(∃m,an' l k=some (dm' m))\/an' l k=none:=by
 cases f:an' l k with
 |none=>exact .inr rfl
 |some v=>obtain⟨x,r,_,rfl⟩:=cZ' f;obtain⟨m,e⟩:=h x r;exact .inl ⟨m,by rw[e]⟩
theorem tC' {w:World} {p o:Nat} {t:TypeId} {arr:Array Value} {nv mv:Value} {l:List (Nat×Value)} (S:ew' w p o t arr nv mv l) (hl:l.length < 1000) (n:Nat) (m:Nat):
  Calls Tryz.prog 139 #[.pointer (some ⟨p,o,none⟩), .int .i64 n,dm' m] w fun e w'=>e= .returned (.tuple #[])/\bY' w w' p o t arr nv mv (aV' l n (dm' m)):=by
 obtain⟨V,h0,h1,S,J⟩:=S;obtain⟨ay,X⟩:∃m,m=mv:=⟨_,rfl⟩;rw[<-X];have X:=t' X;have c0:w.cell? ⟨p,o,none⟩=some nv:=(m' V).trans h0;have c1:w.cell? ⟨p,o+1,none⟩=some mv:=(m' V).trans h1;unfold dm';have az:=lt_of_block V;go_enter Tryz.func139,Tryz.ntmps139;refine C' (fun x=>x.heap[p]? =some (.cells arr t (0,0))/\aJ' x nv mv l/\Far (fun _=>False) w x/\w.heap.size<=x.heap.size) ?_ ?_
 ·exact⟨V,S,Far.refl _ w,Nat.le_refl _⟩
 clear c0 c1 S;rintro x ⟨r,S,F,Y⟩;have c0:x.cell? ⟨p,o,none⟩=some nv:=(m' r).trans h0;have c1:x.cell? ⟨p,o+1,none⟩=some mv:=(m' r).trans h1;have aA:x.frozen? ⟨p,o+1,none⟩=false:=by simp[World.frozen?,r]
 have aB:= @run_makeMap Tryz.prog;have aC:∀y:World,(binOp .eql 140 (.map none) (.map none)).run Tryz.prog y= .ok (.bool true) y:=fun y=>by kernel_rfl
 have aD:∀ (y:World) (m:Nat),(binOp .eql 140 (.map (some m)) (.map none)).run Tryz.prog y= .ok (.bool false) y:=fun y m=>by kernel_rfl
 have Z:(x.alloc (.map #[] 0)).heap[p]? =some (.cells arr t (0,0)):=(Below.heap_alloc x _ p (lt_of_block r)).trans r;have aE:(x.alloc (.map #[] 0)).cell? ⟨p,o+1,none⟩=some mv:=(m' Z).trans h1;have aF:(x.alloc (.map #[] 0)).frozen? ⟨p,o+1,none⟩=false:=by simp[World.frozen?,Z]
 rcases S.map with ⟨rfl,aa⟩|⟨I,rfl,aa⟩;all_goals
  go_upto_region 2 with fail
  refine C' (fun y=>∃I,y.heap[p]? =some (.cells (arr.setIfInBounds (o+1) (.map (some I))) t (0,0))/\aF' y nv (l.map (·.1))/\aT' y I (an' l)/\
   Far (fun k=>k=p) w y/\w.heap.size<=y.heap.size/\(aQ' ay=some I\/w.heap.size<=I)) ?_ ?_
 ·refine⟨x.heap.size,af' Z,?_,?_,?_,?_, .inr Y⟩
  ·exact S.nums.keep (fun g D=>(S' (fun e=>S.ne r J (.inl (by rw[<-e];exact D)))).trans (Below.heap_alloc x _ g (World.ownsRow.lt S.nums g D).2))
  ·rw[aa];exact(fS' x).keep (S' (by have:=lt_of_block r;omega))
  ·exact((F.mono (fun _ _ h=>h.elim)).trans (A' ((Below.refl _ x).alloc (Nat.le_refl _) _)) (fun _ _ h=>h)).trans (O' _ p (o+1) _) (fun _ _ h=>h)
  ·simp;omega
 rotate_left
 ·refine⟨I,by rw[bb' h1];exact r,S.nums,aa,F.mono (fun _ _ h=>h.elim),Y, .inl (by rw[i' X];rfl)⟩
 all_goals
  have hs:=t' S.sorted;clear c0 c1 Z aE aF aA S aa r Y aB aC aD F az;rintro y ⟨u,r,N,z,aq,Y,au⟩;have av:o < arr.size:=(Array.getElem?_eq_some_iff.1 h0).1;have M:o+1 < arr.size:=(Array.getElem?_eq_some_iff.1 h1).1;have a0:(arr.setIfInBounds (o+1) (.map (some u)))[o]? =some nv:=by rw[Array.getElem?_setIfInBounds_ne (by omega)];exact h0
  have a1:(arr.setIfInBounds (o+1) (.map (some u)))[o+1]? =some (.map (some u)):=by simp[M]
  have c0:y.cell? ⟨p,o,none⟩=some nv:=(m' r).trans a0;have G:=fV' (v:=dm' m) (n:=n) (i' hs);have H:=cu' N (i' hs) (by simp;omega) n;have ad:(l.map (·.1)).countP (· < n)<=(l.map (·.1)).length:=List.countP_le_length;have aG:(l.map (·.1)).length < 1000:=by simpa using hl
  generalize (l.map (·.1)).countP (· < n)=k at G H ad;generalize (l.map (·.1)).contains n=c at G H;generalize l.map (·.1)=ns at G H ad N aG;replace G:=t' G;replace H:=t' H;cases c
  ·go_upto_region 3 with (go_at_call 132;refine(i' H).mono ?_;rintro e aH ⟨rfl,q,rfl⟩)
   go_upto_region 5 with fail
   refine(eL' (w:=(y.drewN q).alloc (.cells #[.int .i64 n] 3)) (ns:=ns) (N.keep (fun g D=>Below.heap_alloc (y.drewN q) _ g (World.ownsRow.lt N g D).2)) (by omega) k n y.heap.size ad (heap_alloc_new (y.drewN q) _) (fun e=>by have:=(World.ownsRow.lt N _ e).2;omega)).mono ?_;rintro e f ⟨nv',rfl,ab,ah,aI⟩;have ac:=ah.blk ((Below.heap_alloc (y.drewN q) _ p (lt_of_block r)).trans r) (fun e=>(ao'.of_own N).ne r (fun e=>J e.symm) e);have aO:=(m' ac).trans a0;have aP:f.frozen? ⟨p,o,none⟩=false:=by simp[World.frozen?,ac]
   obtain⟨aJ,O⟩:∃x,x=ns.take k++n::ns.drop k:=⟨_,rfl⟩;rw[<-O]at ab;obtain⟨g',aK,rfl⟩:=fP' ab (by rw[O];simp only[List.length_append,List.length_cons];omega);replace O:=t' O;go_upto_region 5 with fail;refine C' (fun f=>∃nv',f.heap[p]? =some (.cells ((arr.setIfInBounds o nv').setIfInBounds (o+1) (.map (some u))) t (0,0))/\aF' f nv' ((aV' l n (dm' m)).map (·.1))/\aT' f u (an' l)/\
    Far (fun k=>k=p\/nv.ownBlock=some k) w f/\Loc w nv nv') ?_ ?_
   ·have aL:nv.ownBlock≠some u:=N.notMap z;have aM:∀g,(Value.slice (some ⟨g',0,none⟩) aJ.length aK).ownBlock=some g->g≠p:=fun g D e=>(ao'.of_own ab).ne ac (fun e=>J e.symm) (by rw[D,e]);have Q:=i' G;simp only[Bool.false_eq_true,if_false]at Q;have ax:Far (fun _=>False) y ((y.drewN q).alloc (.cells #[.int .i64 n] 3)):=(ag' (fun _=>False) y q).trans (A' ((Below.refl _ _).alloc (Nat.le_refl _) _)) (fun _ _ h=>h);have aN:Far (fun b=>b=p\/nv.ownBlock=some b) w f:=(aq.mono (fun _ _ h=> .inl h)).trans ((ax.mono (fun _ _ h=>h.elim)).trans ah (fun _ _ h=>h)) (fun _ _ h=> .inr h);refine⟨_,?_,?_,?_,aN.trans (O' f p o _) (fun _ _ h=> .inl h),bw' aI (by simp;omega)⟩
    ·rw[set_comm _ _ (show o≠o+1 by omega)];exact af' ac
    ·rw[Q,<-i' O];exact ab.keep (fun g D=>S' (aM g D))
    ·exact z.keep ((S' (fun e=>z.not_cells (by rw[e];exact r))).trans ((ah.rest _ (by have:=z.lt;simp;omega) aL).trans (ax.rest _ z.lt id)))
   ·skip
    rintro f ⟨nv',r,ai,z,F,aj⟩;obtain⟨U,ak,ao⟩:=bu' (P:=Tryz.prog) (w:=f) (t:=140) Tryz.underlying140 Tryz.underlying3 z n (dm' m);have ap:=ak f rfl;unfold dm' at ap;have c1:f.cell? ⟨p,o+1,none⟩=some (.map (some u)):=(m' r).trans (by simp[M]);go_wp2;refine bodyPost_end (results_none rfl _ _ _) rfl ⟨rfl,?_⟩;exact dX' (v:=dm' m) (W:={f with heap:=f.heap.setIfInBounds u U}) av M r J ai z F aj au ao (aW' u U) (i' hs) hl
  ·go_upto_region 3 with (go_at_call 132;refine(i' H).mono ?_;rintro e aH ⟨rfl,q,rfl⟩)
   go_upto_region 5 with fail
   refine C' (fun f=>∃nv',f.heap[p]? =some (.cells ((arr.setIfInBounds o nv').setIfInBounds (o+1) (.map (some u))) t (0,0))/\aF' f nv' ((aV' l n (dm' m)).map (·.1))/\aT' f u (an' l)/\
    Far (fun k=>k=p\/nv.ownBlock=some k) w f/\Loc w nv nv') ?_ ?_
   ·have Q:=i' G;simp only[if_true]at Q;refine⟨nv,?_,by rw[Q];exact N,z,(aq.mono (fun _ _ h=> .inl h)).trans (ag' _ y q) (fun _ _ h=>h), .inr (.inl rfl)⟩;rw[bb' h0];exact r
   ·skip
    rintro f ⟨nv',r,ai,z,F,aj⟩;obtain⟨U,ak,ao⟩:=bu' (P:=Tryz.prog) (w:=f) (t:=140) Tryz.underlying140 Tryz.underlying3 z n (dm' m);have ap:=ak f rfl;unfold dm' at ap;have c1:f.cell? ⟨p,o+1,none⟩=some (.map (some u)):=(m' r).trans (by simp[M]);go_wp2;refine bodyPost_end (results_none rfl _ _ _) rfl ⟨rfl,?_⟩;exact dX' (v:=dm' m) (W:={f with heap:=f.heap.setIfInBounds u U}) av M r J ai z F aj au ao (aW' u U) (i' hs) hl
theorem qu' {w:World} {p o:Nat} {t:TypeId} {arr:Array Value} {nv mv:Value} {l:List (Nat×Value)} (S:ew' w p o t arr nv mv l):
  Calls Tryz.prog 153 #[.pointer (some ⟨p,o,none⟩)] w fun e w'=>e= .returned (.tuple #[])/\bY' w w' p o t arr nv mv []:=by
 obtain⟨F,h0,h1,S,J⟩:=S;have U:o < arr.size:=(Array.getElem?_eq_some_iff.1 h0).1;have V:o+1 < arr.size:=(Array.getElem?_eq_some_iff.1 h1).1;obtain⟨G,u⟩:∃m,m=mv:=⟨_,rfl⟩;rw[<-u];replace u:=t' u;have c1:w.cell? ⟨p,o+1,none⟩=some mv:=(m' F).trans h1;have Z:=S.nums.cases;have z:(mv= .map none/\∀ty,(Builtin.clear_ #[140] ty #[.map none]).run Tryz.prog w= .ok (.tuple #[]) w)\/
   ∃b o,mv= .map (some b)/\b≠p/\nv.ownBlock≠some b/\(∀ty,(Builtin.clear_ #[140] ty #[.map (some b)]).run Tryz.prog w= .ok (.tuple #[]) {w with heap:=w.heap.setIfInBounds b o})/\aT' {w with heap:=w.heap.setIfInBounds b o} b (fun _=>none):=by
  rcases S.map with ⟨rfl,z⟩|⟨H,rfl,z⟩
  ·exact .inl ⟨rfl,fun ty=>fm' Tryz.underlying140⟩
  ·obtain⟨M,aa,O⟩:=fl' (P:=Tryz.prog) (w:=w) (t:=140) Tryz.underlying140 z;exact .inr ⟨H,M,rfl,fun e=>z.not_cells (by rw[e];exact F),S.nums.notMap z,fun ty=>aa ty w rfl,O⟩
 rcases z with ⟨rfl,ab⟩|⟨H,M,rfl,ac,ad,ab,O⟩;all_goals
  go_enter Tryz.func153,Tryz.ntmps153;go_upto_region 1 with fail;refine C' (fun x=>x.heap[p]? =some (.cells arr t (0,0))/\aF' x nv (l.map (·.1))/\jw' x G (an' [])/\Far (fun k=>k=p\/ShU nv G k) w x) ?_ ?_
 ·exact⟨F,S.nums,by rw[i' u];exact .inl ⟨rfl,dz'⟩,Far.refl _ _⟩
 rotate_left
 ·have D:=aW' (w:=w) H M;refine⟨D.blk F (fun e=>ac e.symm),S.nums.keep (fun g X=>D.rest g (World.ownsRow.lt S.nums g X).2 (fun e=>ad (by rw[X,e]))),by rw[i' u];exact .inr ⟨H,rfl,by rw[dz'];exact O⟩,D.mono (fun k _ e=> .inr (.inr (by rw[i' u,e];rfl)))⟩
 all_goals
  clear S;rintro x ⟨f,N,I,D⟩;have c0:x.cell? ⟨p,o,none⟩=some nv:=(m' f).trans h0;have ao:x.frozen? ⟨p,o,none⟩=false:=by simp[World.frozen?,f]
  rcases Z with ⟨rfl,_⟩|⟨g,cap,ap,rfl,aq,au,ah,av,ax⟩
  ·go_wp2;refine bodyPost_end (results_none rfl _ _ _) rfl ⟨rfl,?_⟩;refine⟨⟨_,G,⟨?_,?_,?_,⟨bJ' _,I.keep (fun b r=>S' (fun e=>?_)),by simp,by simp⟩,J⟩, .inr (.inl rfl), .inl rfl⟩,D.trans (O' x p o _) (fun _ _ h=> .inl h)⟩
   ·have:=af' (j:=o) (v:= .slice none 0 0) f;rw[bb' (i:=o+1)]
    ·exact this
    ·rw[Array.getElem?_setIfInBounds_ne (by omega),h1,i' u]
   ·rw[Array.getElem?_setIfInBounds_ne (by omega)];simp[U]
   ·simp[V]
   ·rcases I with ⟨h,_⟩|⟨ai,h,Q⟩
    ·rw[h]at r;cases r
    ·rw[h]at r;cases r;exact Q.not_cells (by rw[e];exact f)
  ·go_wp2;refine bodyPost_end (results_none rfl _ _ _) rfl ⟨rfl,?_⟩;rcases N.cases with ⟨h,_⟩|⟨g',ay,az,h,Y,aA,aB,aj,aC⟩
   ·cases h
   ·injection h with h _ h3;injection h with h;injection h with h;subst h h3;have ak:g≠p:=fun e=>by subst e;rw[Y]at f;injection f with f;injection f with _ f _;exact J f.symm
    refine⟨⟨_,G,⟨?_,?_,?_,⟨fT' (ns:=[]) ((S' ak).trans Y) (Nat.zero_le _) ah aj rfl,I.keep (fun b r=>S' (fun e=>?_)),by simp,by simp⟩,J⟩, .inr (.inl rfl), .inl rfl⟩,D.trans (O' x p o _) (fun _ _ h=> .inl h)⟩
    ·rw[bb' (i:=o+1)]
     ·exact af' (j:=o) f
     ·rw[Array.getElem?_setIfInBounds_ne (by omega),h1,i' u]
    ·rw[Array.getElem?_setIfInBounds_ne (by omega)];simp[U]
    ·simp[V]
    ·rcases I with ⟨h,_⟩|⟨ai,h,Q⟩
     ·rw[h]at r;cases r
     ·rw[h]at r;cases r;exact Q.not_cells (by rw[e];exact f)
theorem tD' {w:World} {p o:Nat} {arr:Array Value} {t:TypeId} {nv mv:Value} {l:List (Nat×Value)} (f:w.heap[p]? =some (.cells arr t (0,0))) (h1:arr[o+1]? =some mv) (S:aJ' w nv mv l) (A:kr' l) (n:Int):
  Calls Tryz.prog 191 #[.pointer (some ⟨p,o,none⟩), .int .i64 n] w fun e w'=>e= .returned (.tuple #[(an' l n).getD rC', .bool (an' l n).isSome])/\w'=w:=by
 have c1:w.cell? ⟨p,o+1,none⟩=some mv:=(m' f).trans h1;have r:=(bf' (P:=Tryz.prog) (w:=w) (t:=140) Tryz.underlying140 Tryz.underlying3 (tB' w) S.map n).1;clear S f h1;rcases sp' A n with ⟨m,h⟩|h;all_goals
  rw[h]at r ⊢;simp only[Option.getD_some,Option.getD_none,Option.isSome_some,Option.isSome_none,dm',rC']at r ⊢;clear h A;go_enter Tryz.func191,Tryz.ntmps191;go_wp2;go_ret2;exact⟨rfl,rfl⟩
theorem vL':(Tryz.prog.info? 3).map (fun i=>(i.zero,i.size,i.bytes))=some (some (.int .i64 0),1,8):=by kernel_rfl
theorem lN' {w:World} {p o:Nat} {t:TypeId} {arr:Array Value} {nv mv:Value} {l:List (Nat×Value)} (S:ew' w p o t arr nv mv l) (A:kr' l) (n:Nat):
  Calls Tryz.prog 201 #[.pointer (some ⟨p,o,none⟩), .int .i64 n] w fun e w'=>∃v,e= .returned v/\
   w'.ownsRow w.heap.size 3 1 v (bm' l n) (ex' (l.take (bm' l n)))/\dA' w w' p o t arr nv mv (l.drop (bm' l n)):=by
 obtain⟨X,h0,h1,S,aj⟩:=S;have aI:o < arr.size:=(Array.getElem?_eq_some_iff.1 h0).1;have bB:o+1 < arr.size:=(Array.getElem?_eq_some_iff.1 h1).1;have c0:w.cell? ⟨p,o,none⟩=some nv:=(m' X).trans h0;have bC:=S.len;have Y:=cu' S.nums S.sorted (by simp;omega) n;have hcut:=tq' (n:=n) S.sorted;have aJ:=tr' l n;have aK:(l.map (·.1)).countP (· < n)<=l.length:=by have:=List.countP_le_length (p:=(· < n)) (l:=l.map (·.1));simpa using this
 obtain⟨i0,hi,ba,bb,bc⟩:=bj' vL';generalize bm' l n=O at *;generalize (l.map (·.1)).countP (· < n)=k0 at *;generalize (l.map (·.1)).contains n=c at *;have u:(l.map (·.1)).length=l.length:=List.length_map _;have Z:=t' S;have bD:=t' u;replace Y:=t' Y;rcases S.nums.cases with ⟨ak,aL⟩|⟨g,cap,bE,ak,aM,bd,aN,bF,be⟩
 ·subst ak;obtain rfl:l=[]:=by simpa using aL
  obtain rfl:O=0:=by simpa using aJ
  obtain rfl:k0=0:=by simpa using aK
  have aN:c=false:=by cases c <;> simp_all
  subst aN;have H:=fun y:World=>dy' (bJ' y) 0 0 (by omega) (by simp);simp only[show((0:Nat):Int)=0 from rfl,List.take_nil,List.drop_nil,List.nil_append]at H;have bf:=fun y=>t' (H y);clear S u H hcut aK aJ aL;simp only[show((0:Nat):Int)=0 from rfl]at Y;go_enter Tryz.func201,Tryz.ntmps201;go_upto_region 5 with (go_at_call 132;refine(i' Y).mono ?_;rintro e y ⟨rfl,q,rfl⟩);go_wp2;go_loopw[5,9,29] (fun v5 _ i wr=>v5= .slice none 0 0/\i= .int .i64 0/\wr=w.drewN q) (fun _ _ i _=>0)
  case atStart=>exact⟨rfl,rfl,rfl⟩
  case round=>
   obtain⟨rfl,rfl,rfl⟩:=hrel;go_upto_region 12 with fail;refine(i' (bf _)).mono ?_;rintro e r ⟨nv',rfl,I,D,Q⟩;obtain rfl:nv'= .slice none 0 0:=by
    rcases I.cases with ⟨h,_⟩|⟨g',aO,bG,rfl,_⟩
    ·exact h
    ·cases Q
   have ab:Far (fun _=>False) w r:=(ag' (fun _=>False) w q).trans (D.mono (fun _ _ h=>by cases h)) (fun _ _ h=>h);have U:=ab.blk X id;have bg:=(m' U).trans h0;have bh:r.frozen? ⟨p,o,none⟩=false:=by simp[World.frozen?,U]
   replace I:=t' I;replace ab:=t' ab;clear D Q;go_wp2;go_ret;have ao:=i' Z;have bH:r.setCell ⟨p,o,none⟩ (.slice none 0 0)=r.setCell ⟨p,o,none⟩ (.slice none 0 0):=rfl;refine⟨_,rfl,World.ownsRow_nil _ _ _ _,⟨_,⟨af' U,by simp[aI],by rw[Array.getElem?_setIfInBounds_ne (by omega)];exact h1,⟨bJ' _,(ao.far (i' ab) (fun _ _ h=>h)).map.keep (fun b F=>S' (fun e=>?_)),by simp,by simp⟩,aj⟩,rfl⟩,((i' ab).mono (fun _ _ h=>h.elim)).trans (O' r p o _) (fun _ _ h=> .inl h)⟩;exact ao.ne X aj (.inr (by rw[F,e]))
 ·rw[u]at ak bd;subst ak;have bI:=t' S.nums;cases c;all_goals
   simp only[if_true,if_false,Bool.false_eq_true,Nat.add_zero]at hcut;clear S be u;try (rw[hcut]at Y)
   have bi:((k0:Int)+1=(O:Int))=((k0:Int)+1=(O:Int)):=rfl;try (have bi:(k0:Int)+1=O:=by omega)
   replace hcut:=t' hcut;go_enter Tryz.func201,Tryz.ntmps201;go_upto_region 5 with (go_at_call 132;refine(i' Y).mono ?_;rintro e y ⟨rfl,q,rfl⟩)
  all_goals
   go_wp2;go_loopw[5,9,29] (fun v5 _ i wr=>∃k:Nat,k<=O/\i= .int .i64 k/\wr.ownsRow w.heap.size 3 1 v5 k (ex' (l.take k))/\wr.heap[p]? =some (.cells arr t (0,0))/\aF' wr (.slice (some ⟨g,0,none⟩) l.length cap) (l.map (·.1))/\jw' wr mv (an' (l.drop k))/\Far (fun b=>aQ' mv=some b) w wr) (fun _ _ i _=>l.length - (intOf i).toNat)
   case atStart=>exact⟨0,by omega,rfl,World.ownsRow_nil _ _ _ _,X,(i' Z).nums,by rw[List.drop_zero];exact(i' Z).map,ag' _ w q⟩
   case round=>
    obtain⟨k,bJ,rfl,ap,z,N,az,aq⟩:=hrel;by_cases bK:k < O
    ·have u:k < l.length:=by omega
     obtain⟨m,au⟩:=A l[k] (List.getElem_mem u);have av:l.drop k=l[k]::l.drop (k+1):=List.drop_eq_getElem_cons u;have J:an' (l.drop k) (l[k].1:Int)=some l[k].2:=by rw[av,bQ',if_pos rfl]
     have aP:=(i' Z).sorted;have aQ:∀y∈l.drop (k+1),l[k].1 < y.1:=fun y bj=>by
      have h1:((l.drop k).map (·.1)).Pairwise (· < ·):=by rw[List.map_drop];exact aP.drop
      rw[av,List.map_cons,List.pairwise_cons]at h1;exact h1.1 y.1 (List.mem_map.2 ⟨y,bj,rfl⟩)
     have aA:=kj' aQ;rw[<-av]at aA;have aB:ex' (l.take (k+1))=ex' (l.take k)++fs' l[k].2:=by rw[<-mo',List.take_add_one,List.getElem?_eq_getElem u];rfl
     have c0:=(m' z).trans h0;have c1:=(m' z).trans h1;have bL:wr.cell? ⟨g,k,none⟩=some (.int .i64 (l[k].1:Int)):=by rw[N.cell' (by simpa using u)];simp[List.getD_eq_getElem?_getD,u]
     rcases az with ⟨rfl,ac⟩|⟨G,rfl,ac⟩
     ·rw[ac]at J;cases J
     have aR:=(bf' (P:=Tryz.prog) (w:=wr) (t:=140) Tryz.underlying140 Tryz.underlying3 (tB' wr) (.inr ⟨G,rfl,ac⟩) (l[k].1:Int)).2;rw[J,au]at aR;rw[au]at aB;simp only[Option.getD_some,dm']at aR;have bk:=t' aB;have bl:=t' aA;have ad:=t' ap;have ah:=t' N;have aa:=t' ac;have ax:=t' aq;have bM:=t' au;clear ap N ac aq aB aA J au av aQ aP;generalize aS:l[k].1=bm at *;replace aS:=t' aS;have aT:=(i' ax).size;have bn:G < w.heap.size:=(i' Z).map.lt G rfl;have aU:=lt_of_block X;have bo:=fun g' (f:u5.ownBlock=some g')=>World.ownsRow.lt (i' ad) g' f;go_upto_region 9 with (at_builtin;refine wpList_append_own _ rfl (.tmp 33) (.tmp 40) 26 rfl w.heap.size 3 i0 (.int .i64 0) 1 8 Tryz.underlying26 hi ba bb bc rfl (by decide) u5 k (ex' (l.take k)) rfl ((i' ad).alloc _) ⟨wr.heap.size,0,none⟩ 1 1 (fs' (dm' m)) rfl rfl bP' (by intro bN hu;simp[fs',dm']at hu;first|(rcases hu with rfl|rfl <;> rfl)|(subst hu;rfl)) (by unfold maxLen;omega) (by omega) (by simp;omega) ?_;intro bO M ai aV _;have V:Below w.heap.size wr M:=((Below.refl _ wr).alloc aT _).trans (X' (B:=w.heap.size) aV (by simp;omega) (fun g' f=>(bo g' f).1));obtain⟨aC,aW,aD⟩:=eJ' (P:=Tryz.prog) (w:=M) (t:=140) (K':=3) Tryz.underlying140 Tryz.underlying3 ((i' aa).keep (V.block G bn)) bm;have bP:=fun ty=>aW ty M rfl;have aE:=(V.block p aU).trans z;have bQ:=(m' aE).trans h1;replace ai:=t' ai;replace aD:=t' aD;replace V:=t' V;clear aV aW);go_wp2;have bp:p≠G:=fun e=>(i' aa).not_cells (by rw[<-e];exact z);have bq:=(i' ah).notMap (i' aa);have bR:=(World.ownsRow.lt (i' ah) g rfl).2;have aF:g < w.heap.size:=lt_of_block aM;have ay:=aW' (w:=M) G aC;have br:=(i' ah).keep (w':={M with heap:=M.heap.setIfInBounds G aC}) (fun g' f=>by cases f;exact(ay.rest g (Nat.lt_of_lt_of_le aF (Nat.le_trans aT (i' V).size)) (fun e=>bq (by rw[e];rfl))).trans ((i' V).block g aF));have bt:=cU' (w':={M with heap:=M.heap.setIfInBounds G aC}) (i' ai) (fun g' f=>ay.rest g' (World.ownsRow.lt (i' ai) g' f).2 (fun e=>by have:=(World.ownsRow.lt (i' ai) g' f).1;omega));refine⟨⟨k+1,by omega,by go_num,by rw[i' bk];exact bt,(ay.rest p (lt_of_block aE) bp).trans aE,br, .inr ⟨G,rfl,by rw[<-i' bl];exact i' aD⟩,
      ((i' ax).behind (i' V)).trans ay (fun _ _ h=>by rw[h];rfl)⟩,by simp[intOf];omega⟩
    ·obtain rfl:k=O:=by omega
     have ad:=t' ap;have ah:=t' N;have aa:=t' az;have ax:=t' aq;have bu:(l.map (·.1)).length=l.length:=List.length_map _;have aX:g≠p:=fun e=>(ao'.of_own N).ne z (fun e=>aj e.symm) (by rw[<-e];rfl);have c0:=(m' z).trans h0;have H:=dy' N 0 k (by omega) (by omega);rw[show((0:Nat):Int)=0 from rfl,List.take_zero,List.nil_append,<-List.map_drop]at H;replace H:=t' H;clear ap N az aq bu;go_upto_region 12 with fail;refine(i' H).mono ?_;rintro e r ⟨nv',rfl,I,D,Q⟩;have U:=D.blk z (fun e=>aX (by cases e;rfl));have bg:=(m' U).trans h0;have bh:r.frozen? ⟨p,o,none⟩=false:=by simp[World.frozen?,U]
     have J:(List.map (fun x=>x.1) (List.drop k l)).length=l.length - k:=by simp
     have aY:=(ao'.of_own I).shape;rw[J]at aY;obtain⟨bw,aO,rfl,_⟩:=aY;replace J:=t' J;replace I:=t' I;replace Q:=t' Q;replace D:=t' D;go_wp2;go_ret;have ao:=i' Z;have bz:Far (fun b=>b=p\/ShU (.slice (some ⟨g,0,none⟩) l.length cap) mv b) w r:=((i' ax).mono (fun _ _ h=> .inr (.inr h))).trans (i' D) (fun _ _ h=> .inr (.inl h));have aG:∀b,b≠p->(r.setCell ⟨p,o,none⟩ (.slice bw (l.length - k) aO)).heap[b]? =r.heap[b]? :=fun b z=>S' z;have aZ:∀b,aQ' mv=some b->b≠p/\r.heap[b]? =wr.heap[b]? :=fun b F=>by
      rcases i' aa with ⟨h,_⟩|⟨bS,h,aH⟩
      ·rw[h]at F;cases F
      ·rw[h]at F;cases F;exact⟨fun e=>aH.not_cells (by rw[e];exact z),(i' D).rest b aH.lt (fun e=>(i' ah).notMap aH e)⟩
     refine⟨_,rfl,cU' (i' ad) (fun g' f=>?_),⟨_,⟨af' U,by simp[aI],by rw[Array.getElem?_setIfInBounds_ne (by omega)];exact h1,⟨(i' I).keep (fun g' f=>aG g' ?_),(i' aa).keep (fun b F=>(aG b (aZ b F).1).trans (aZ b F).2),by rw[List.map_drop];exact ao.sorted.drop,by rw[List.length_drop];omega⟩,aj⟩,i' Q⟩,bz.trans (O' r p o _) (fun _ _ h=> .inl h)⟩
     ·have bA:=World.ownsRow.lt (i' ad) g' f;have aU:=lt_of_block X;have aF:=lt_of_block aM;exact(aG g' (by omega)).trans ((i' D).rest g' bA.2 (fun e=>by have bT:g=g':=Option.some.inj e;omega))
     ·rw[i' Q]at f;cases f;exact aX
def dg' (b:ByteArray):Value:= .agg #[.string b]
def rD':Value:= .agg #[.string ⟨#[]⟩]
theorem qv' (w:World):(zeroValue 235).run Tryz.prog w= .ok rD' w:=Tryz.zeroValue235 w
def gD' (l:List (Nat×Value)):Prop:=∀x∈l,∃b,x.2=dg' b
theorem fZ' {l:List (Nat×Value)} (h:gD' l) (k:Int):(∃b,an' l k=some (dg' b))\/an' l k=none:=by
 cases f:an' l k with
 |none=>exact .inr rfl
 |some v=>obtain⟨x,r,_,rfl⟩:=cZ' f;obtain⟨b,e⟩:=h x r;exact .inl ⟨b,by rw[e]⟩
theorem ks' {w:World} {p o:Nat} {arr:Array Value} {t:TypeId} {nv mv:Value} {l:List (Nat×Value)} (f:w.heap[p]? =some (.cells arr t (0,0))) (h1:arr[o+1]? =some mv) (S:aJ' w nv mv l) (A:gD' l) (n:Int):
  Calls Tryz.prog 165 #[.pointer (some ⟨p,o,none⟩), .int .i64 n] w fun e w'=>e= .returned (.bool (an' l n).isSome)/\Below w.heap.size w w':=by
 have c1:w.cell? ⟨p,o+1,none⟩=some mv:=(m' f).trans h1;have r:=(bf' (P:=Tryz.prog) (w:=w) (t:=168) Tryz.underlying168 Tryz.underlying3 (qv' w) S.map n).1;clear S f h1;rcases fZ' A n with ⟨b,h⟩|h;all_goals
  rw[h]at r ⊢;simp only[Option.getD_some,Option.getD_none,Option.isSome_some,Option.isSome_none,dg',rD']at r ⊢;clear h A;go_enter Tryz.func165,Tryz.ntmps165;go_wp2;go_ret;refine⟨rfl,?_⟩;exact(Below.refl _ _).alloc (Nat.le_refl _) _
theorem tE' {w:World} {p o:Nat} {t:TypeId} {arr:Array Value} {nv mv:Value} {l:List (Nat×Value)} (S:ew' w p o t arr nv mv l) (hl:l.length < 1000) (n:Nat) (b:ByteArray):
  Calls Tryz.prog 206 #[.pointer (some ⟨p,o,none⟩), .int .i64 n,dg' b] w fun e w'=>e= .returned (.tuple #[])/\bY' w w' p o t arr nv mv (aV' l n (dg' b)):=by
 obtain⟨O,h0,h1,S,Q⟩:=S;obtain⟨aA,Z⟩:∃m,m=mv:=⟨_,rfl⟩;rw[<-Z];have Z:=t' Z;have c0:w.cell? ⟨p,o,none⟩=some nv:=(m' O).trans h0;have c1:w.cell? ⟨p,o+1,none⟩=some mv:=(m' O).trans h1;unfold dg';have aB:=lt_of_block O;go_enter Tryz.func206,Tryz.ntmps206;go_upto_region 1 with fail;refine C' (fun x=>x.heap[p]? =some (.cells arr t (0,0))/\x.heap[w.heap.size]? =some (.cells #[.string b] 235 (0,0))/\aJ' x nv mv l/\Far (fun _=>False) w x/\w.heap.size < x.heap.size) ?_ ?_
 ·have D:Far (fun _=>False) w (w.alloc (.cells #[.string b] 235)):=A' ((Below.refl _ _).alloc (Nat.le_refl _) _);exact⟨D.blk O id,heap_alloc_new w _,S.far D (fun _ _ h=>h),D,by simp⟩
 clear c0 c1 S;rintro x ⟨r,F,S,D,J⟩;have c0:x.cell? ⟨p,o,none⟩=some nv:=(m' r).trans h0;have c1:x.cell? ⟨p,o+1,none⟩=some mv:=(m' r).trans h1;have aC:x.frozen? ⟨p,o+1,none⟩=false:=by simp[World.frozen?,r]
 have aD:= @run_makeMap Tryz.prog;have aE:∀y:World,(binOp .eql 168 (.map none) (.map none)).run Tryz.prog y= .ok (.bool true) y:=fun y=>by kernel_rfl
 have aF:∀ (y:World) (m:Nat),(binOp .eql 168 (.map (some m)) (.map none)).run Tryz.prog y= .ok (.bool false) y:=fun y m=>by kernel_rfl
 have aa:(x.alloc (.map #[] 0)).heap[p]? =some (.cells arr t (0,0)):=(Below.heap_alloc x _ p (lt_of_block r)).trans r;have aG:(x.alloc (.map #[] 0)).cell? ⟨p,o+1,none⟩=some mv:=(m' aa).trans h1;have aH:(x.alloc (.map #[] 0)).frozen? ⟨p,o+1,none⟩=false:=by simp[World.frozen?,aa]
 rcases S.map with ⟨rfl,ab⟩|⟨M,rfl,ab⟩;all_goals
  go_upto_region 3 with fail
  refine C' (fun y=>∃M,y.heap[p]? =some (.cells (arr.setIfInBounds (o+1) (.map (some M))) t (0,0))/\y.heap[w.heap.size]? =some (.cells #[.string b] 235 (0,0))/\aF' y nv (l.map (·.1))/\aT' y M (an' l)/\
   Far (fun k=>k=p) w y/\w.heap.size < y.heap.size/\(aQ' aA=some M\/w.heap.size<=M)) ?_ ?_
 ·refine⟨x.heap.size,af' aa,(S' (by omega)).trans ((Below.heap_alloc x _ _ J).trans F),?_,?_,?_,?_, .inr (Nat.le_of_lt J)⟩
  ·exact S.nums.keep (fun g G=>(S' (fun e=>S.ne r Q (.inl (by rw[<-e];exact G)))).trans (Below.heap_alloc x _ g (World.ownsRow.lt S.nums g G).2))
  ·rw[ab];exact(fS' x).keep (S' (by have:=lt_of_block r;omega))
  ·exact((D.mono (fun _ _ h=>h.elim)).trans (A' ((Below.refl _ x).alloc (Nat.le_refl _) _)) (fun _ _ h=>h)).trans (O' _ p (o+1) _) (fun _ _ h=>h)
  ·simp;omega
 rotate_left
 ·refine⟨M,by rw[bb' h1];exact r,F,S.nums,ab,D.mono (fun _ _ h=>h.elim),J, .inl (by rw[i' Z];rfl)⟩
 all_goals
  have hs:=t' S.sorted;clear c0 c1 aa aG aH aC F S ab r J aD aE aF D aB;rintro y ⟨u,r,F,N,z,av,J,ax⟩;have ay:o < arr.size:=(Array.getElem?_eq_some_iff.1 h0).1;have U:o+1 < arr.size:=(Array.getElem?_eq_some_iff.1 h1).1;have a0:(arr.setIfInBounds (o+1) (.map (some u)))[o]? =some nv:=by rw[Array.getElem?_setIfInBounds_ne (by omega)];exact h0
  have a1:(arr.setIfInBounds (o+1) (.map (some u)))[o+1]? =some (.map (some u)):=by simp[U]
  have c0:y.cell? ⟨p,o,none⟩=some nv:=(m' r).trans a0;have H:=fV' (v:=dg' b) (n:=n) (i' hs);have I:=cu' N (i' hs) (by simp;omega) n;have ai:(l.map (·.1)).countP (· < n)<=(l.map (·.1)).length:=List.countP_le_length;have aI:(l.map (·.1)).length < 1000:=by simpa using hl
  generalize (l.map (·.1)).countP (· < n)=k at H I ai;generalize (l.map (·.1)).contains n=c at H I;generalize l.map (·.1)=ns at H I ai N aI;replace H:=t' H;replace I:=t' I;cases c
  ·go_upto_region 4 with (go_at_call 132;refine(i' I).mono ?_;rintro e aJ ⟨rfl,q,rfl⟩)
   go_upto_region 6 with fail
   refine(eL' (w:=(y.drewN q).alloc (.cells #[.int .i64 n] 3)) (ns:=ns) (N.keep (fun g G=>Below.heap_alloc (y.drewN q) _ g (World.ownsRow.lt N g G).2)) (by omega) k n y.heap.size ai (heap_alloc_new (y.drewN q) _) (fun e=>by have:=(World.ownsRow.lt N _ e).2;omega)).mono ?_;rintro e f ⟨nv',rfl,ac,ad,aK⟩;have ah:=ad.blk ((Below.heap_alloc (y.drewN q) _ p (lt_of_block r)).trans r) (fun e=>(ao'.of_own N).ne r (fun e=>Q e.symm) e);have aL:=ad.blk ((Below.heap_alloc (y.drewN q) _ _ J).trans F) (fun e=>(ao'.of_own N).ne F (by decide) e);have aR:=(m' ah).trans a0;have aS:f.frozen? ⟨p,o,none⟩=false:=by simp[World.frozen?,ah]
   obtain⟨aM,V⟩:∃x,x=ns.take k++n::ns.drop k:=⟨_,rfl⟩;rw[<-V]at ac;obtain⟨g',aN,rfl⟩:=fP' ac (by rw[V];simp only[List.length_append,List.length_cons];omega);replace V:=t' V;go_upto_region 6 with fail;refine C' (fun f=>∃nv',f.heap[p]? =some (.cells ((arr.setIfInBounds o nv').setIfInBounds (o+1) (.map (some u))) t (0,0))/\f.heap[w.heap.size]? =some (.cells #[.string b] 235 (0,0))/\aF' f nv' ((aV' l n (dg' b)).map (·.1))/\aT' f u (an' l)/\
    Far (fun k=>k=p\/nv.ownBlock=some k) w f/\Loc w nv nv') ?_ ?_
   ·have aO:nv.ownBlock≠some u:=N.notMap z;have aP:∀g,(Value.slice (some ⟨g',0,none⟩) aM.length aN).ownBlock=some g->g≠p:=fun g G e=>(ao'.of_own ac).ne ah (fun e=>Q e.symm) (by rw[G,e]);have X:=i' H;simp only[Bool.false_eq_true,if_false]at X;have az:Far (fun _=>False) y ((y.drewN q).alloc (.cells #[.int .i64 n] 3)):=(ag' (fun _=>False) y q).trans (A' ((Below.refl _ _).alloc (Nat.le_refl _) _)) (fun _ _ h=>h);have aQ:Far (fun b=>b=p\/nv.ownBlock=some b) w f:=(av.mono (fun _ _ h=> .inl h)).trans ((az.mono (fun _ _ h=>h.elim)).trans ad (fun _ _ h=>h)) (fun _ _ h=> .inr h);refine⟨_,?_,(S' (by have:=lt_of_block O;omega)).trans aL,?_,?_,aQ.trans (O' f p o _) (fun _ _ h=> .inl h),bw' aK (by simp;omega)⟩
    ·rw[set_comm _ _ (show o≠o+1 by omega)];exact af' ah
    ·rw[X,<-i' V];exact ac.keep (fun g G=>S' (aP g G))
    ·exact z.keep ((S' (fun e=>z.not_cells (by rw[e];exact r))).trans ((ad.rest _ (by have:=z.lt;simp;omega) aO).trans (az.rest _ z.lt id)))
   ·skip
    rintro f ⟨nv',r,F,aj,z,D,ak⟩;obtain⟨Y,ao,ap⟩:=bu' (P:=Tryz.prog) (w:=f) (t:=168) Tryz.underlying168 Tryz.underlying3 z n (dg' b);have aq:=ao f.drew rfl;unfold dg' at aq;have c1:f.cell? ⟨p,o+1,none⟩=some (.map (some u)):=(m' r).trans (by simp[U]);have au:=m' (i:=0) F;simp at au;go_region;refine bodyPost_end (results_none rfl _ _ _) rfl ⟨rfl,?_⟩;exact dX' (v:=dg' b) (W:={f.drew with heap:=f.drew.heap.setIfInBounds u Y}) ay U r Q aj z D ak ax ap ((ag' _ f 1).trans (aW' u Y) (fun _ _ h=>h)) (i' hs) hl
  ·go_upto_region 4 with (go_at_call 132;refine(i' I).mono ?_;rintro e aJ ⟨rfl,q,rfl⟩)
   go_upto_region 6 with fail
   refine C' (fun f=>∃nv',f.heap[p]? =some (.cells ((arr.setIfInBounds o nv').setIfInBounds (o+1) (.map (some u))) t (0,0))/\f.heap[w.heap.size]? =some (.cells #[.string b] 235 (0,0))/\aF' f nv' ((aV' l n (dg' b)).map (·.1))/\aT' f u (an' l)/\
    Far (fun k=>k=p\/nv.ownBlock=some k) w f/\Loc w nv nv') ?_ ?_
   ·have X:=i' H;simp only[if_true]at X;refine⟨nv,?_,F,by rw[X];exact N,z,(av.mono (fun _ _ h=> .inl h)).trans (ag' _ y q) (fun _ _ h=>h), .inr (.inl rfl)⟩;rw[bb' h0];exact r
   ·skip
    rintro f ⟨nv',r,F,aj,z,D,ak⟩;obtain⟨Y,ao,ap⟩:=bu' (P:=Tryz.prog) (w:=f) (t:=168) Tryz.underlying168 Tryz.underlying3 z n (dg' b);have aq:=ao f.drew rfl;unfold dg' at aq;have c1:f.cell? ⟨p,o+1,none⟩=some (.map (some u)):=(m' r).trans (by simp[U]);have au:=m' (i:=0) F;simp at au;go_region;refine bodyPost_end (results_none rfl _ _ _) rfl ⟨rfl,?_⟩;exact dX' (v:=dg' b) (W:={f.drew with heap:=f.drew.heap.setIfInBounds u Y}) ay U r Q aj z D ak ax ap ((ag' _ f 1).trans (aW' u Y) (fun _ _ h=>h)) (i' hs) hl
theorem qw' {w:World} {p o:Nat} {t:TypeId} {arr:Array Value} {nv mv:Value} {l:List (Nat×Value)} (S:ew' w p o t arr nv mv l):
  Calls Tryz.prog 203 #[.pointer (some ⟨p,o,none⟩)] w fun e w'=>e= .returned (.tuple #[])/\bY' w w' p o t arr nv mv []:=by
 obtain⟨F,h0,h1,S,J⟩:=S;have U:o < arr.size:=(Array.getElem?_eq_some_iff.1 h0).1;have V:o+1 < arr.size:=(Array.getElem?_eq_some_iff.1 h1).1;obtain⟨G,u⟩:∃m,m=mv:=⟨_,rfl⟩;rw[<-u];replace u:=t' u;have c1:w.cell? ⟨p,o+1,none⟩=some mv:=(m' F).trans h1;have Z:=S.nums.cases;have z:(mv= .map none/\∀ty,(Builtin.clear_ #[168] ty #[.map none]).run Tryz.prog w= .ok (.tuple #[]) w)\/
   ∃b o,mv= .map (some b)/\b≠p/\nv.ownBlock≠some b/\(∀ty,(Builtin.clear_ #[168] ty #[.map (some b)]).run Tryz.prog w= .ok (.tuple #[]) {w with heap:=w.heap.setIfInBounds b o})/\aT' {w with heap:=w.heap.setIfInBounds b o} b (fun _=>none):=by
  rcases S.map with ⟨rfl,z⟩|⟨H,rfl,z⟩
  ·exact .inl ⟨rfl,fun ty=>fm' Tryz.underlying168⟩
  ·obtain⟨M,aa,O⟩:=fl' (P:=Tryz.prog) (w:=w) (t:=168) Tryz.underlying168 z;exact .inr ⟨H,M,rfl,fun e=>z.not_cells (by rw[e];exact F),S.nums.notMap z,fun ty=>aa ty w rfl,O⟩
 rcases z with ⟨rfl,ab⟩|⟨H,M,rfl,ac,ad,ab,O⟩;all_goals
  go_enter Tryz.func203,Tryz.ntmps203;go_upto_region 1 with fail;refine C' (fun x=>x.heap[p]? =some (.cells arr t (0,0))/\aF' x nv (l.map (·.1))/\jw' x G (an' [])/\Far (fun k=>k=p\/ShU nv G k) w x) ?_ ?_
 ·exact⟨F,S.nums,by rw[i' u];exact .inl ⟨rfl,dz'⟩,Far.refl _ _⟩
 rotate_left
 ·have D:=aW' (w:=w) H M;refine⟨D.blk F (fun e=>ac e.symm),S.nums.keep (fun g X=>D.rest g (World.ownsRow.lt S.nums g X).2 (fun e=>ad (by rw[X,e]))),by rw[i' u];exact .inr ⟨H,rfl,by rw[dz'];exact O⟩,D.mono (fun k _ e=> .inr (.inr (by rw[i' u,e];rfl)))⟩
 all_goals
  clear S;rintro x ⟨f,N,I,D⟩;have c0:x.cell? ⟨p,o,none⟩=some nv:=(m' f).trans h0;have ao:x.frozen? ⟨p,o,none⟩=false:=by simp[World.frozen?,f]
  rcases Z with ⟨rfl,_⟩|⟨g,cap,ap,rfl,aq,au,ah,av,ax⟩
  ·go_wp2;refine bodyPost_end (results_none rfl _ _ _) rfl ⟨rfl,?_⟩;refine⟨⟨_,G,⟨?_,?_,?_,⟨bJ' _,I.keep (fun b r=>S' (fun e=>?_)),by simp,by simp⟩,J⟩, .inr (.inl rfl), .inl rfl⟩,D.trans (O' x p o _) (fun _ _ h=> .inl h)⟩
   ·have:=af' (j:=o) (v:= .slice none 0 0) f;rw[bb' (i:=o+1)]
    ·exact this
    ·rw[Array.getElem?_setIfInBounds_ne (by omega),h1,i' u]
   ·rw[Array.getElem?_setIfInBounds_ne (by omega)];simp[U]
   ·simp[V]
   ·rcases I with ⟨h,_⟩|⟨ai,h,Q⟩
    ·rw[h]at r;cases r
    ·rw[h]at r;cases r;exact Q.not_cells (by rw[e];exact f)
  ·go_wp2;refine bodyPost_end (results_none rfl _ _ _) rfl ⟨rfl,?_⟩;rcases N.cases with ⟨h,_⟩|⟨g',ay,az,h,Y,aA,aB,aj,aC⟩
   ·cases h
   ·injection h with h _ h3;injection h with h;injection h with h;subst h h3;have ak:g≠p:=fun e=>by subst e;rw[Y]at f;injection f with f;injection f with _ f _;exact J f.symm
    refine⟨⟨_,G,⟨?_,?_,?_,⟨fT' (ns:=[]) ((S' ak).trans Y) (Nat.zero_le _) ah aj rfl,I.keep (fun b r=>S' (fun e=>?_)),by simp,by simp⟩,J⟩, .inr (.inl rfl), .inl rfl⟩,D.trans (O' x p o _) (fun _ _ h=> .inl h)⟩
    ·rw[bb' (i:=o+1)]
     ·exact af' (j:=o) f
     ·rw[Array.getElem?_setIfInBounds_ne (by omega),h1,i' u]
    ·rw[Array.getElem?_setIfInBounds_ne (by omega)];simp[U]
    ·simp[V]
    ·rcases I with ⟨h,_⟩|⟨ai,h,Q⟩
     ·rw[h]at r;cases r
     ·rw[h]at r;cases r;exact Q.not_cells (by rw[e];exact f)
def bX' (l:List (Nat×Value)) (q:Nat):Nat->Nat
 |0=>0
 |j+1=>bX' l q j+if(an' l ((q+2+j:Nat):Int)).isSome=true then 2 ^ j else 0
theorem oC' (l:List (Nat×Value)) (q:Nat):∀j,bX' l q j < 2 ^ j
 |0=>by simp[bX']
 |j+1=>by
  have:=oC' l q j;unfold bX';split
  ·rw[Nat.pow_succ];omega
  ·rw[Nat.pow_succ];omega
theorem or0:bits BinOp.or IntKind.u8 0 1=1:=by decide+kernel
theorem or1:∀x:Fin 2,bits BinOp.or IntKind.u8 ((x.val:Nat):Int) 2=((x.val+2:Nat):Int):=by decide+kernel
theorem or2:∀x:Fin 4,bits BinOp.or IntKind.u8 ((x.val:Nat):Int) 4=((x.val+4:Nat):Int):=by decide+kernel
theorem oD' {w:World} {p o:Nat} {t:TypeId} {arr:Array Value} {nv mv:Value} {l:List (Nat×Value)} (S:ew' w p o t arr nv mv l) (A:gD' l) (q:Nat) (ai:q<=1000000000):
  Calls Tryz.prog 164 #[.int .i64 q, .func (.func 165) #[.pointer (some ⟨p,o,none⟩)] #[]] w fun e w'=>e= .returned (.string ⟨#[UInt8.ofNat (bX' l q 3)]⟩)/\Below w.heap.size w w':=by
 have ac:=t' S;have Z:=fun k (ad:ShU nv mv k)=>S.sh.lt k ad;have ah:=lt_of_block S.blk;go_enter Tryz.func164,Tryz.ntmps164;go_wp2;go_loopw[5,6,7] (fun v5 _ i wr=>∃j:Nat,j<=3/\i= .int .i64 j/\v5= .int .u8 (bX' l q j:Nat)/\Below w.heap.size w wr) (fun _ _ i _=>3 - (intOf i).toNat)
 case atStart=>exact⟨0,by omega,rfl,rfl,Below.refl _ _⟩
 case round=>
  obtain⟨j,hj,rfl,rfl,I⟩:=hrel;have Q:ew' wr p o t arr nv mv l:=by have O:=i' ac;exact⟨(I.block p ah).trans O.blk,O.c0,O.c1,O.sh.keep (fun g U=>I.block g (Z g (.inl U))) (fun g U=>I.block g (Z g (.inr U))),O.ty⟩
  have V:=fun k:Int=>t' (ks' Q.blk Q.c1 Q.sh A k);have G:=t' I;have H:=I.size;clear I Q;have J:=fun y=>cV' q (by omega) y;have X:=oC' l q j;rcases(show j=0\/j=1\/j=2\/j=3 by omega)with rfl|rfl|rfl|rfl
  ·have aa:IntKind.i64.wrap ((q:Int)+2+0)=(q:Int)+2+0:=by rw[IntKind.wrap_i64];omega
   have r:=V ((q:Int)+2);have u:Hid (bX' l q (0+1)=bX' l q 0+if(an' l ((q:Int)+2)).isSome=true then 2 ^ 0 else 0):=rfl;generalize M:bX' l q 0=x at *;have ab:=or0;obtain rfl:x=0:=by omega
   cases F:(an' l ((q:Int)+2)).isSome
   ·rw[F]at r u;go_upto_region 6 with (first|(go_at_call 202;refine(J _).mono ?_;rintro e y ⟨rfl,rfl⟩)|(go_at_call 165;refine(i' r).mono ?_;rintro e z ⟨rfl,f⟩;have D:=t' ((i' G).trans (f.mono H));clear f));exact⟨⟨0+1,by omega,by go_num,by rw[i' u];simp,i' D⟩,by simp[intOf]⟩
   ·rw[F]at r u;go_upto_region 6 with (first|(go_at_call 202;refine(J _).mono ?_;rintro e y ⟨rfl,rfl⟩)|(go_at_call 165;refine(i' r).mono ?_;rintro e z ⟨rfl,f⟩;have D:=t' ((i' G).trans (f.mono H));clear f));go_wp2;exact⟨⟨0+1,by omega,by go_num,by rw[i' u];simp,i' D⟩,by simp[intOf]⟩
  ·have aa:IntKind.i64.wrap ((q:Int)+2+1)=(q:Int)+2+1:=by rw[IntKind.wrap_i64];omega
   have r:=V ((q:Int)+2+1);have u:Hid (bX' l q (1+1)=bX' l q 1+if(an' l ((q:Int)+2+1)).isSome=true then 2 ^ 1 else 0):=rfl;generalize M:bX' l q 1=x at *;have ab:=or1 ⟨x,X⟩;replace M:=t' M;cases F:(an' l ((q:Int)+2+1)).isSome
   ·rw[F]at r u;go_upto_region 6 with (first|(go_at_call 202;refine(J _).mono ?_;rintro e y ⟨rfl,rfl⟩)|(go_at_call 165;refine(i' r).mono ?_;rintro e z ⟨rfl,f⟩;have D:=t' ((i' G).trans (f.mono H));clear f));exact⟨⟨1+1,by omega,by go_num,by rw[i' u];simp,i' D⟩,by simp[intOf]⟩
   ·rw[F]at r u;go_upto_region 6 with (first|(go_at_call 202;refine(J _).mono ?_;rintro e y ⟨rfl,rfl⟩)|(go_at_call 165;refine(i' r).mono ?_;rintro e z ⟨rfl,f⟩;have D:=t' ((i' G).trans (f.mono H));clear f));go_wp2;exact⟨⟨1+1,by omega,by go_num,by rw[i' u];simp,i' D⟩,by simp[intOf]⟩
  ·have aa:IntKind.i64.wrap ((q:Int)+2+2)=(q:Int)+2+2:=by rw[IntKind.wrap_i64];omega
   have r:=V ((q:Int)+2+2);have u:Hid (bX' l q (2+1)=bX' l q 2+if(an' l ((q:Int)+2+2)).isSome=true then 2 ^ 2 else 0):=rfl;generalize M:bX' l q 2=x at *;have ab:=or2 ⟨x,X⟩;replace M:=t' M;cases F:(an' l ((q:Int)+2+2)).isSome
   ·rw[F]at r u;go_upto_region 6 with (first|(go_at_call 202;refine(J _).mono ?_;rintro e y ⟨rfl,rfl⟩)|(go_at_call 165;refine(i' r).mono ?_;rintro e z ⟨rfl,f⟩;have D:=t' ((i' G).trans (f.mono H));clear f));exact⟨⟨2+1,by omega,by go_num,by rw[i' u];simp,i' D⟩,by simp[intOf]⟩
   ·rw[F]at r u;go_upto_region 6 with (first|(go_at_call 202;refine(J _).mono ?_;rintro e y ⟨rfl,rfl⟩)|(go_at_call 165;refine(i' r).mono ?_;rintro e z ⟨rfl,f⟩;have D:=t' ((i' G).trans (f.mono H));clear f));go_wp2;exact⟨⟨2+1,by omega,by go_num,by rw[i' u];simp,i' D⟩,by simp[intOf]⟩
  ·have aj:bX' l q 3 < 8:=X;have ak:∀z:World,(convert 44 9 (.slice (some ⟨z.heap.size,0,none⟩) 1 1)).run Tryz.prog (z.alloc (.cells #[.int .u8 (bX' l q 3:Nat)] 5))= .ok (.string ⟨#[UInt8.ofNat (bX' l q 3)]⟩) (z.alloc (.cells #[.int .u8 (bX' l q 3:Nat)] 5)):=fun z=>
    fg' (l:=[UInt8.ofNat (bX' l q 3)]) (b:=z.heap.size) (off:=0) (n:=1) (cap:=1) rfl (fun i hi=>by
     obtain rfl:i=0:=by omega
     rw[m' (heap_alloc_new z _)];simp;omega)
   generalize Y:bX' l q 3=x at *;replace Y:=t' Y;go_wp2;go_ret;exact⟨(congrArg (fun x=>Ending.returned (Value.string ⟨#[UInt8.ofNat x]⟩)) (i' Y)).symm,((i' G).alloc H _)⟩
theorem jB' (a b c:Nat) (ad:a < 4294967296) (ah:b < 4294967296) (ai:c < 4294967296) (w:World):
  Calls Tryz.prog 162 #[.agg #[.int .i64 a, .int .i64 b, .int .i64 c]] w fun e w'=>e= .returned (.string ⟨(Wire.le4 a++Wire.le4 b++Wire.le4 c).toArray⟩)/\Below w.heap.size w w':=by
 have aj:∀y:World,(Instr.index 98 (.agg #[.int .i64 a, .int .i64 b, .int .i64 c]) (.int .i64 0)).run Tryz.prog y= .ok (.int .i64 a) y:=fun y=>by kernel_rfl
 have ak:∀y:World,(Instr.index 98 (.agg #[.int .i64 a, .int .i64 b, .int .i64 c]) (.int .i64 1)).run Tryz.prog y= .ok (.int .i64 b) y:=fun y=>by kernel_rfl
 have ao:∀y:World,(Instr.index 98 (.agg #[.int .i64 a, .int .i64 b, .int .i64 c]) (.int .i64 2)).run Tryz.prog y= .ok (.int .i64 c) y:=fun y=>by kernel_rfl
 have hl:∀n:Int,(Wire.le4 n).length=4:=fun n=>Wire.length_le4 n;go_enter Tryz.func162,Tryz.ntmps162;go_upto_region 2 with fail;refine C' (fun x=>x.cell? ⟨w.heap.size,0,none⟩=some (.int .i64 a)/\x.cell? ⟨w.heap.size,1,none⟩=some (.int .i64 b)/\x.cell? ⟨w.heap.size,2,none⟩=some (.int .i64 c)/\Below w.heap.size w x/\w.heap.size < x.heap.size) ?_ ?_
 ·have:=heap_alloc_new w (.cells #[.int .i64 a, .int .i64 b, .int .i64 c] 98);exact⟨m' this,m' this,m' this,(Below.refl _ _).alloc (Nat.le_refl _) _,by simp⟩
 rintro x ⟨c0,c1,c2,ab,ac⟩;go_wp2;go_loopw[3,5,7] (fun v _ i wr=>∃j:Nat,j<=3/\i= .int .i64 j/\as' (w.heap.size+1) wr v ((Wire.le4 a++Wire.le4 b++Wire.le4 c).take (4 * j))/\Below w.heap.size w wr/\w.heap.size < wr.heap.size) (fun _ _ i _=>3 - (intOf i).toNat)
 case atStart=>exact⟨0,by omega,rfl,gL' _ _,ab,ac⟩
 case round=>
  obtain⟨j,hj,rfl,U,V,O⟩:=hrel;have u:=t' U;have J:=t' V;clear U V;rcases(show j=0\/j=1\/j=2\/j=3 by omega)with rfl|rfl|rfl|rfl
  ·have D:=t' (show(Wire.le4 a++Wire.le4 b++Wire.le4 c).take (4 * (0+1))=(Wire.le4 a++Wire.le4 b++Wire.le4 c).take (4 * 0)++Wire.le4 a by simp[Wire.le4]);go_upto_region 6 with (go_at_call 135;refine(aC' (w.heap.size+1) (a:Int) u3 _ wr (by simp only[List.length_take,List.length_append,hl];omega) (by omega) (by omega) (i' u)).mono ?_;rintro X F ⟨Y,rfl,z,f⟩;have r:Below (w.heap.size+1) wr F:=X' f (by omega) (fun g f=>((i' u).lt g f).1);have G:=t' z;have H:=t' ((i' J).trans (r.mono (by omega)));have I:=Nat.lt_of_lt_of_le O r.size;clear z f r);go_wp2;exact⟨⟨0+1,by omega,by go_num,by rw[i' D];exact i' G,i' H,I⟩,by simp[intOf]⟩
  ·have D:=t' (show(Wire.le4 a++Wire.le4 b++Wire.le4 c).take (4 * (1+1))=(Wire.le4 a++Wire.le4 b++Wire.le4 c).take (4 * 1)++Wire.le4 b by simp[Wire.le4]);go_upto_region 6 with (go_at_call 135;refine(aC' (w.heap.size+1) (b:Int) u3 _ wr (by simp only[List.length_take,List.length_append,hl];omega) (by omega) (by omega) (i' u)).mono ?_;rintro X F ⟨Y,rfl,z,f⟩;have r:Below (w.heap.size+1) wr F:=X' f (by omega) (fun g f=>((i' u).lt g f).1);have G:=t' z;have H:=t' ((i' J).trans (r.mono (by omega)));have I:=Nat.lt_of_lt_of_le O r.size;clear z f r);go_wp2;exact⟨⟨1+1,by omega,by go_num,by rw[i' D];exact i' G,i' H,I⟩,by simp[intOf]⟩
  ·have D:=t' (show(Wire.le4 a++Wire.le4 b++Wire.le4 c).take (4 * (2+1))=(Wire.le4 a++Wire.le4 b++Wire.le4 c).take (4 * 2)++Wire.le4 c by simp[Wire.le4]);go_upto_region 6 with (go_at_call 135;refine(aC' (w.heap.size+1) (c:Int) u3 _ wr (by simp only[List.length_take,List.length_append,hl];omega) (by omega) (by omega) (i' u)).mono ?_;rintro X F ⟨Y,rfl,z,f⟩;have r:Below (w.heap.size+1) wr F:=X' f (by omega) (fun g f=>((i' u).lt g f).1);have G:=t' z;have H:=t' ((i' J).trans (r.mono (by omega)));have I:=Nat.lt_of_lt_of_le O r.size;clear z f r);go_wp2;exact⟨⟨2+1,by omega,by go_num,by rw[i' D];exact i' G,i' H,I⟩,by simp[intOf]⟩
  ·have M:(Wire.le4 a++Wire.le4 b++Wire.le4 c).length=12:=by simp[hl]
   rw[List.take_of_length_le (by rw[M];omega)]at u;have Z:=(i' u).addr (by rw[M];omega);rw[M]at Z;obtain⟨g,cap,rfl,ap,aq,au,av,aa⟩:=Z;have ax:=fg' (w:=wr) (b:=g) (off:=0) (cap:=cap) M aa;generalize Q:Wire.le4 a++Wire.le4 b++Wire.le4 c=fr at *;replace Q:=t' Q;clear aa u;go_wp2;go_ret;exact⟨(congrArg (fun x:List UInt8=>Ending.returned (Value.string ⟨x.toArray⟩)) (i' Q)).symm,i' J⟩
structure fy' (w:World) (p:Nat) (e:Nat) (logs:Nat->List ByteArray) (sh:Nat->List (Nat×Value)) (arr:Array Value) (s:Nat) (lv nv mv:Nat->Value) (rv:Value):Prop where
 blk:w.heap[p]? =some (.cells arr 176 (0,0))
 sz:arr.size=12
 a0:arr[0]? =some (y' s)
 a1:arr[1]? =some (.int .i64 e)
 al:∀i,i < 3->arr[2+i * 3]? =some (lv i)
 an:∀i,i < 3->arr[2+i * 3+1]? =some (nv i)
 am:∀i,i < 3->arr[2+i * 3+2]? =some (mv i)
 ar:arr[11]? =some rv
 lgs:∀i,i < 3->ao' w 9 1 (lv i) (logs i).length (aK' (logs i))
 shs:∀i,i < 3->aJ' w (nv i) (mv i) (sh i)
 are:∀i,i < 3->gD' (sh i)
 apl:∀i j,i < 3->j < 3->i≠j->∀g,(lv i).ownBlock=some g->(lv j).ownBlock≠some g
 aps:∀i j,i < 3->j < 3->i≠j->∀k,ShU (nv i) (mv i) k->¬ShU (nv j) (mv j) k
 cnt:(logs 0).length+(logs 1).length+(logs 2).length<=120
 ep:e<=2147483647
def KsU (p:Nat) (lv nv mv:Nat->Value) (k:Nat):Prop:=k=p\/(∃i,i < 3/\(lv i).ownBlock=some k)\/∃i,i < 3/\ShU (nv i) (mv i) k
section
variable {w x:World} {p e s:Nat} {logs:Nat->List ByteArray} {sh:Nat->List (Nat×Value)} {arr:Array Value} {lv nv mv:Nat->Value} {rv:Value}
theorem fy'.far {E:Nat->Prop} (h:fy' w p e logs sh arr s lv nv mv rv) (f:Far E w x) (r:∀k,KsU p lv nv mv k->¬E k):fy' x p e logs sh arr s lv nv mv rv:=
 ⟨f.blk h.blk (r p (.inl rfl)),h.sz,h.a0,h.a1,h.al,h.an,h.am,h.ar,fun i hi=>(h.lgs i hi).far f (fun g u=>r g (.inr (.inl ⟨i,hi,u⟩))),fun i hi=>(h.shs i hi).far f (fun k z=>r k (.inr (.inr ⟨i,hi,z⟩))),h.are,h.apl,h.aps,h.cnt,h.ep⟩
theorem fy'.lt (h:fy' w p e logs sh arr s lv nv mv rv):∀k,KsU p lv nv mv k->k < w.heap.size:=by
 rintro k (rfl|⟨i,hi,f⟩|⟨i,hi,f⟩)
 ·exact lt_of_block h.blk
 ·exact(h.lgs i hi).lt k f
 ·exact(h.shs i hi).lt k f
theorem fy'.logc (h:fy' w p e logs sh arr s lv nv mv rv) {i:Nat} (hi:i < 3):∃f cap,lv i= .slice f (logs i).length cap/\w.cell? ⟨p,2+i * 3,none⟩=some (.slice f (logs i).length cap):=by
 obtain⟨f,cap,e,_⟩:=(h.lgs i hi).shape;exact⟨f,cap,e,by rw[m' h.blk,h.al i hi,e]⟩
theorem fy'.loglen (h:fy' w p e logs sh arr s lv nv mv rv) {i:Nat} (hi:i < 3):(logs i).length<=120:=by
 have:=h.cnt;obtain rfl|rfl|rfl:i=0\/i=1\/i=2:=by omega
 all_goals omega
end
theorem bx' (w:World) (p o n cap:Nat) (f:Option Addr) (u:w.cell? ⟨p,o,none⟩=some (.slice f n cap)):
  Calls Tryz.prog 161 #[.pointer (some ⟨p,o,none⟩)] w fun r w'=>r= .returned (.int .i64 n)/\w'=w:=by
 go_enter Tryz.func161,Tryz.ntmps161;go_wp2;go_ret;exact⟨rfl,rfl⟩
theorem dn' (w:World) (p o n cap:Nat) (f:Option Addr) (r:w.cell? ⟨p,o,none⟩=some (.slice f n cap)) (D:n<=1000):
  Calls Tryz.prog 158 #[.pointer (some ⟨p,o,none⟩)] w fun u w'=>u= .returned (.int .i64 (n+1:Nat))/\w'=w:=by
 have z:=t' (bx' w p o n cap f r);have F:IntKind.i64.wrap ((n:Int)+1)=(n:Int)+1:=by rw[IntKind.wrap_i64];omega
 clear r;go_enter Tryz.func158,Tryz.ntmps158;go_wp2_with (go_at_call 161;refine(i' z).mono ?_;rintro u y ⟨rfl,rfl⟩);go_ret;exact⟨by simp,rfl⟩
theorem eo' {w:World} {p e s:Nat} {logs:Nat->List ByteArray} {sh:Nat->List (Nat×Value)} {arr:Array Value} {lv nv mv:Nat->Value} {rv:Value} (u:fy' w p e logs sh arr s lv nv mv rv):
  Calls Tryz.prog 157 #[y' p] w fun z w'=>z= .returned (.int .i64 ((logs 0).length+(logs 1).length+(logs 2).length:Nat))/\w'=w:=by
 obtain⟨a0,k0,_,c0⟩:=u.logc (i:=0) (by omega);obtain⟨a1,k1,_,c1⟩:=u.logc (i:=1) (by omega);obtain⟨G,k2,_,c2⟩:=u.logc (i:=2) (by omega);have M:=u.cnt;have H:=t' (bx' w p 2 _ k0 a0 c0);have I:=t' (bx' w p 5 _ k1 a1 c1);have J:=t' (bx' w p 8 _ k2 G c2);generalize (logs 0).length=f at *;generalize (logs 1).length=r at *;generalize (logs 2).length=D at *;clear u c0 c1 c2;unfold y';go_enter Tryz.func157,Tryz.ntmps157;go_wp2;go_loopw[3,4,5] (fun v _ i wr=>∃j:Nat,j<=3/\i= .int .i64 j/\v= .int .i64 (if j=0 then 0 else if j=1 then f else if j=2 then f+r else f+r+D:Nat)/\wr=w) (fun _ _ i _=>3 - (intOf i).toNat)
 case atStart=>exact⟨0,by omega,rfl,rfl,rfl⟩
 case round=>
  obtain⟨j,hj,rfl,rfl,rfl⟩:=hrel;rcases(show j=0\/j=1\/j=2\/j=3 by omega)with rfl|rfl|rfl|rfl
  ·have F:IntKind.i64.wrap (f:Int)=(f:Int):=by rw[IntKind.wrap_i64];omega
   go_wp2_with (go_at_call 161;refine(i' H).mono ?_;rintro z y ⟨rfl,rfl⟩)
   exact⟨⟨1,by omega,by go_num,by simp,by first|rfl|trivial⟩,by simp[intOf]⟩
  ·have F:IntKind.i64.wrap ((f:Int)+(r:Int))=(f:Int)+(r:Int):=by rw[IntKind.wrap_i64];omega
   go_wp2_with (go_at_call 161;refine(i' I).mono ?_;rintro z y ⟨rfl,rfl⟩)
   exact⟨⟨2,by omega,by go_num,by simp,by first|rfl|trivial⟩,by simp[intOf]⟩
  ·have F:IntKind.i64.wrap ((f:Int)+(r:Int)+(D:Int))=(f:Int)+(r:Int)+(D:Int):=by rw[IntKind.wrap_i64];omega
   go_wp2_with (go_at_call 161;refine(i' J).mono ?_;rintro z y ⟨rfl,rfl⟩)
   exact⟨⟨3,by omega,by go_num,by simp,by first|rfl|trivial⟩,by simp[intOf]⟩
  ·go_wp2;go_ret;exact⟨by simp,rfl⟩
theorem jh' {w:World} {p e s:Nat} {logs:Nat->List ByteArray} {sh:Nat->List (Nat×Value)} {arr:Array Value} {lv nv mv:Nat->Value} {rv:Value} (f:fy' w p e logs sh arr s lv nv mv rv):
  Calls Tryz.prog 204 #[y' p] w fun r w'=>r= .returned (.bool (decide ((logs 0).length+(logs 1).length+(logs 2).length < 120)))/\w'=w:=by
 have u:=t' (eo' f);have D:=f.cnt;generalize (logs 0).length+(logs 1).length+(logs 2).length=n at *;clear f;unfold y' at *;by_cases h:n < 120
 ·rw[decide_eq_true h];have z:(n:Int) < 120:=by omega
  go_enter Tryz.func204,Tryz.ntmps204;go_wp2_with (go_at_call 157;refine(i' u).mono ?_;rintro r y ⟨rfl,rfl⟩);go_ret;exact⟨by simp,rfl⟩
 ·rw[decide_eq_false h];have z:¬ (n:Int) < 120:=by omega
  go_enter Tryz.func204,Tryz.ntmps204;go_wp2_with (go_at_call 157;refine(i' u).mono ?_;rintro r y ⟨rfl,rfl⟩);go_ret;exact⟨by simp;omega,rfl⟩
end Go.Proofs.YtamafdcnbcoegaaGreat
