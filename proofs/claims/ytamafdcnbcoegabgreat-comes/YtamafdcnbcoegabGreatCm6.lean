/-
  Part 6 of a proof: S10, S11, S12, S7U, S8U, S7I, S8I, S9I, S7S, S8S, F2, F3, K1.
-/
import Derived.RangeFuncNested
import Derived.RangeFuncBound
import Derived.RangeFuncCalls
import Derived.RangeFuncLeaves
import Derived.Shelf.Abstract
import Derived.Shelf.RegionOpen
import Derived.OwnWalkIn
import Derived.TacticsInMore
import Derived.LoopNIn
import Derived.LoopIn
import Derived.Test.YtamafdcnbcoegabGreatCm5
set_option maxRecDepth 100000
set_option maxHeartbeats 40000000
namespace Go.Proofs.YtamafdcnbcoegabGreat
open Go.RowKit
def dt' (w:World) (p o:Nat) (m:Int):World:=(w.alloc (.cells #[.pointer (some ⟨p,o,none⟩)] 197)).alloc (.cells #[.int .i64 m] 3)
def sU' (b:Nat):Value:= .func (.func 156) #[] #[.pointer (some ⟨b,0,none⟩), .pointer (some ⟨b+1,0,none⟩)]
theorem kZ' (p o:Nat) (m:Int) (w:World):
  Calls Tryz.prog 105 #[.pointer (some ⟨p,o,none⟩), .int .i64 m] w fun e w'=>e= .returned (sU' w.heap.size)/\w'=dt' w p o m:=by
 go_enter Tryz.func105,Tryz.ntmps105;go_wp2;go_ret;exact⟨rfl,rfl⟩
theorem uX' {w:World} {p o:Nat} {arr:Array Value} {t:TypeId} {nv mv:Value} {l:List (Nat×Value)} (r:w.heap[p]? =some (.cells arr t (0,0))) (h0:arr[o]? =some nv) (S:aM' w nv mv l):
  Calls Tryz.prog 73 #[.pointer (some ⟨p,o,none⟩)] w fun e w'=>e= .returned (sU' w.heap.size)/\w'=dt' w p o l.length:=by
 have z:=y' (pt' r h0 S);clear S r h0;go_enter Tryz.func73,Tryz.ntmps73;go_wp2_with (first|(go_at_call 110;refine(i' z).mono ?_;rintro e w' ⟨rfl,rfl⟩)|(go_at_call 105;refine(kZ' _ _ _ _).mono ?_;rintro e w' ⟨rfl,rfl⟩));go_ret;exact⟨rfl,rfl⟩
attribute [local go_sem] Oper.semAt_some
structure of' (W:World) (b p o:Nat) (m:Nat) (nv mv:Value) (l:List (Nat×Value)):Prop where
 c1:W.cell? ⟨b,0,none⟩=some (.pointer (some ⟨p,o,none⟩))
 c2:W.cell? ⟨b+1,0,none⟩=some (.int .i64 m)
 s0:W.cell? ⟨p,o,none⟩=some nv
 s1:W.cell? ⟨p,o+1,none⟩=some mv
 sh:aM' W nv mv l
theorem wu' {l:List (Nat×Value)} (hs:(l.map (·.1)).Pairwise (· < ·)) {k:Nat} (z:k < l.length):ar' l (l[k].1:Int)=some l[k].2:=by
 induction l generalizing k with
 |nil=>simp at z
 |cons x r ih=>
  rw[List.map_cons,List.pairwise_cons]at hs;obtain⟨h0,hs⟩:=hs;cases k with
  |zero=>rw[bY',List.getElem_cons_zero,if_pos rfl]
  |succ k=>
   have D:k < r.length:=by simpa using z
   rw[bY',List.getElem_cons_succ,if_neg,ih hs D];have:=h0 r[k].1 (List.mem_map.2 ⟨r[k],List.getElem_mem D,rfl⟩);omega
theorem uY' (n Q b p o m:Nat) (nv mv:Value) (l:List (Nat×Value)) (A:ob' l) (r:Nat->World->Prop) (U:World->Prop)
  (V:∀i W,r i W->of' W b p o m nv mv l) (X:∀i W k,r i W->r i (W.drewN k))
  (ab:∀i W (h:i < l.length),i < m->r i W->YieldAt Fence.wide (n - 1) Tryz.prog Q #[.int .i64 (l[i].1:Nat),l[i].2] W fun e D=>(e= .returned (.bool true)/\r (i+1) D)\/(e= .returned (.bool false)/\U D))
  (W:World) (h0:r 0 W):
  CallsIn Fence.wide n Tryz.prog 156 #[.func (.yield Q) #[] #[], .pointer (some ⟨b,0,none⟩), .pointer (some ⟨b+1,0,none⟩)] W fun e D=>(∃v,e= .returned v)/\(r (min m l.length) D\/U D):=by
 have R:=V 0 W h0;obtain⟨c1,c2,s0,s1,S⟩:=R;have ap:=S.len;have J:(l.map (·.1)).length=l.length:=List.length_map _;obtain⟨z,H⟩:∃z,z=min m l.length:=⟨_,rfl⟩;rw[<-H];have ac:z<=m:=by omega
 have Y:z<=l.length:=by omega
 have ad:min (m:Int) (l.length:Int)=z:=by omega
 refine callsIn_of_wp Tryz.func156 rfl trivial ?_ rfl;refine wpIn_wide.2 ?_;simp only[Tryz.ntmps156,List.size_toArray,List.length_cons,List.length_nil,Nat.reduceAdd,Nat.reduceSub,Array.replicate_succ,Array.replicate_zero,List.push_toArray,List.append_toArray,List.nil_append,List.cons_append];rcases S.nums.cases with ⟨I,Z⟩|⟨g,cap,aq,I,au,ah,av,ax,ai⟩
 ·subst I;obtain rfl:l=[]:=by simpa using Z
  obtain rfl:z=0:=by simpa using Y
  have ay:min (m:Int) 0=0:=by omega
  clear S J ad H ac Y Z;go_wp2;go_quiet (fail);go_wp2;go_loopw[5,19] (fun _ i wr=>i= .int .i64 0/\r 0 wr) (fun _ _ _=>0)
  case atStart=>exact⟨rfl,X 0 W _ h0⟩
  case round=>obtain⟨rfl,F⟩:=hrel;go_wp2;refine bodyPost_end (results_none rfl _ _ _) rfl ?_;exact⟨⟨_,rfl⟩, .inl F⟩
 ·rw[J]at I ah;subst I;clear S ai J;replace H:=y' H;go_wp2;go_quiet (fail);go_wp2;go_loopw[5,19] (fun _ i wr=>∃k:Nat,k<=z/\i= .int .i64 k/\r k wr) (fun _ i _=>l.length - (intOf i).toNat)
  case atStart=>exact⟨0,by omega,rfl,X 0 W _ h0⟩
  case round=>
   obtain⟨k,az,rfl,F⟩:=hrel;by_cases aA:k < z
   ·have G:k < l.length:=by omega
    obtain⟨c1,c2,s0,s1,S⟩:=V k wr F;obtain⟨aB,aC,M⟩:=A l[k] (List.getElem_mem G);have aD:wr.cell? ⟨g,k,none⟩=some (.int .i64 (l[k].1:Int)):=by rw[S.nums.cell' (by simpa using G)];simp[List.getD_eq_getElem?_getD,G]
    have aa:=(bm' (P:=Tryz.prog) (w:=wr) (t:=102) Tryz.underlying102 Tryz.underlying3 (rx' wr) S.map (l[k].1:Int)).2;rw[wu' S.sorted G,M]at aa;have O:=ab k wr G (by omega) F;rw[M]at O;simp only[Option.getD_some,ce']at aa O;obtain⟨fn,tmps,assign,body,aE,aj⟩:=O;clear S M;generalize l[k].1=aF at *;go_upto_region 3 with fail;refine(wpIn_wide (n:=n)).1 ?_;gi_wp2;refine⟨fun h=>by simp[Fence.wide]at h,aj.mono ?_⟩;rintro e aG (⟨rfl,ak⟩|⟨rfl,ao⟩)
    ·gi_wp2
     go_wp2;go_roundw
     case rel=>exact⟨k+1,by omega,by go_num,ak⟩
     case measure=>simp[intOf];omega
    ·gi_wp2
     go_wp2;refine bodyPost_ret (results_none rfl _ _ _) rfl ?_;exact⟨⟨_,rfl⟩, .inr ao⟩
   ·obtain rfl:k=z:=by omega
    go_wp2;refine bodyPost_end (results_none rfl _ _ _) rfl ?_;exact⟨⟨_,rfl⟩, .inl F⟩
end Go.Proofs.YtamafdcnbcoegabGreat
namespace Go.Proofs.YtamafdcnbcoegabGreat
open Go.RowKit
structure pD' (D:Nat) (W W':World):Prop where
 os:W'.os=W.os
 tape:W'.tape=W.tape
 output:W'.output=W.output
 size:W'.heap.size=W.heap.size
 rest:∀k,k≠D->k≠D+1->W'.heap[k]? =W.heap[k]?
theorem jg' (r:Nat) (W:World) (o:Obj):pD' r W (W.putObj (r+1) o):=
 ⟨rfl,rfl,rfl,World.putObj_size,fun _ _ h=>World.putObj_heap_other h⟩
theorem rB' (r:Nat) (W:World) (n:Nat):pD' r W (W.drewN n):=⟨rfl,rfl,rfl,rfl,fun _ _ _=>rfl⟩
def uZ' (r:Nat) (D:World->Prop) (W:World):Exit->Act->World->Prop
 | .normal,_,z=>z.heap[r]? =W.heap[r]? /\z.heap[r+1]? =W.heap[r+1]? /\D z
 | _,_,_=>False
theorem jR' {g:Operand} {M:Array Tmp} {assign body:Code} {Z:Exit->Act->World->Prop} {a:Act} {w:World} (n b p o m:Nat) (nv mv:Value) (l:List (Nat×Value)) (A:ob' l)
  (ai:a.eval g=sU' b) (aj:M.size=2) (z:Nat->World->Prop) (Q:∀i W O,z i W->pD' w.heap.size W O->z i O) (ak:∀i W,z i W->of' W b p o m nv mv l)
  (h0:∀W,Below w.heap.size w W->W.heap.size=w.heap.size+2->z 0 W)
  (ao:∀i (hi:i < l.length) W,i < m->z i W->w.heap.size+2<=W.heap.size->
   assign.wpIn (Fence.wide.inRound (w.heap.size+1)) (n - 1 - 1) Tryz.prog (Exit.then (fun aa D=>(D.heap[w.heap.size]? =W.heap[w.heap.size]? /\D.heap[w.heap.size+1]? =W.heap[w.heap.size+1]?)/\
     ∀U,pD' w.heap.size D U->body.wpIn (Fence.wide.inRound (w.heap.size+1)) (n - 1 - 1) Tryz.prog (uZ' w.heap.size (z (i+1)) U) aa U) (fun _ _ _=>False))
    {tmps:=(M.zip #[.int .i64 (l[i].1:Nat),l[i].2]).foldl (fun t (p,v)=>t.setIfInBounds p v) a.tmps,defers:=[]} W)
  (ap:∀i W,z i W->w.heap.size+2<=W.heap.size)
  (aq:∀W,z (min m l.length) W->W.heap[w.heap.size]? =some (.deferred (some []))->Z .normal {a with defers:={target:= .collected w.heap.size,args:= #[]}::a.defers} W):
  (Code.rangeFunc g M assign body).wpIn Fence.wide n Tryz.prog Z a w:=by
 refine wpIn_rangeFunc ?_;intro fn au;obtain⟨F,G⟩:∃F:LoopState->Loop,F=fun st=>{state:=st,pending:=none,fn,tmps:=a.tmps,params:=M,assign,body,defers:=w.heap.size}:=⟨_,rfl⟩;obtain⟨r,J⟩:∃r,(w.alloc (.deferred (some []))).alloc (.loop (F .ready))=r:=⟨_,rfl⟩;have av:r.heap[w.heap.size+1]? =some (.loop (F .ready)):=by rw[<-J];have:=World.alloc_heap_new (w.alloc (.deferred (some []))) (.loop (F .ready));rwa [World.size_alloc]at this
 have ax:r.heap[w.heap.size]? =some (.deferred (some [])):=by rw[<-J];exact(Below.heap_alloc _ _ _ (by simp)).trans (World.alloc_heap_new w _)
 have ay:Below w.heap.size w r:=by rw[<-J];exact((Below.refl _ w).alloc (Nat.le_refl _) _).alloc (by simp) _
 have az:r.heap.size=w.heap.size+2:=by rw[<-J];simp
 have aA:∀args w,(callFunc 156 args).run Tryz.prog w= .ok (.enter 156 args) w:=enters_of Tryz.func156 (by kernel_rfl) rfl;refine⟨w.heap.size+1,[{target:= .collected w.heap.size,args:= #[]}],r,{target:= .fn (.func 156) #[.pointer (some ⟨b,0,none⟩), .pointer (some ⟨b+1,0,none⟩)],args:= #[.func (.yield (w.heap.size+1)) #[] #[]]},r,156,
  #[.func (.yield (w.heap.size+1)) #[] #[], .pointer (some ⟨b,0,none⟩), .pointer (some ⟨b+1,0,none⟩)],r,?_,?_,?_,?_,fun h=>by simp[Fence.wide]at h,?_⟩
 ·rw[<-J,G];exact run_enterLoop_outer _ _ _ _ _
 ·simp only[resolve,ai];simp[go_sem,sU']
 ·intro f' _;trivial
 ·simp[invoke,go_sem,aA]
 ·refine(uY' (n - 1) (w.heap.size+1) b p o m nv mv l A
   (fun i W=>z i W/\W.heap[w.heap.size+1]? =some (.loop (F .ready))/\W.heap[w.heap.size]? =some (.deferred (some []))) (fun _=>False)
   (fun i W h=>ak i W h.1) (fun i W k h=>⟨Q i W _ h.1 (rB' _ W k),h.2.1,h.2.2⟩) ?_ r ⟨h0 r ay az,av,ax⟩).mono ?_
  ·rintro i W hi aB ⟨ab,hl,V⟩;have aK:w.heap.size+1 < W.heap.size:=(Array.getElem?_eq_some_iff.1 hl).1;have ac:=run_yield (P:=Tryz.prog) (args:= #[.int .i64 (l[i].1:Nat),l[i].2]) hl (by rw[G];simpa using aj.symm);rw[G]at ac;refine⟨fn,_,assign,body,ac,roundIn_of_wpIn au (wpIn_mono (ao i hi W aB ab (ap i W ab)) ?_)⟩;rintro e aa D H;cases e with
   |normal=>
    obtain⟨⟨aC,X⟩,aD⟩:=H;have ad:D.heap[w.heap.size+1]? =some (.loop (F .ready)):=X.trans hl;have aE:D.heap[w.heap.size]? =some (.deferred (some [])):=aC.trans V;have aF:w.heap.size+1 < D.heap.size:=(Array.getElem?_eq_some_iff.1 ad).1;refine⟨_,run_beginRound ad (by rw[G]),wpIn_mono (aD _ (jg' _ D _)) ?_⟩;rintro X aL Y I;cases X with
    |normal=>
     obtain⟨aG,aH,aI⟩:=I;have ah:Y.heap[w.heap.size+1]? =some (.loop {F .ready with state:= .busy}):=aH.trans (World.putObj_heap_same aF);have aJ:Y.heap[w.heap.size]? =some (.deferred (some [])):=(aG.trans (World.putObj_heap_other (by omega))).trans aE;refine⟨_,_,run_endRound none ah, .inl ⟨rfl,Q _ _ _ aI (jg' _ Y _),?_,?_⟩⟩
     ·rw[World.putObj_heap_same (Array.getElem?_eq_some_iff.1 ah).1,G];rfl
     ·exact(World.putObj_heap_other (by omega)).trans aJ
    |ret=>exact I.elim
    |exit id=>exact I.elim
    |goto t=>exact I.elim
    |panic c=>exact I.elim
    |outgrown=>exact I.elim
   |ret=>exact H.elim
   |exit id=>exact H.elim
   |goto t=>exact H.elim
   |panic c=>exact H.elim
   |outgrown=>exact H.elim
  ·rintro e O ⟨⟨v,rfl⟩,⟨hi,hl,V⟩|h⟩
   ·have:=run_endLoop (P:=Tryz.prog) hl (by rw[G];simp);rw[G]at this;exact⟨none,_,this,aq _ (Q _ _ _ hi (jg' _ O _)) ((World.putObj_heap_other (by omega)).trans V)⟩
   ·exact h.elim
def cQ':Value:= .agg #[]
def xa':Value:= .agg #[]
theorem xt' (w:World):(zeroValue 207).run Tryz.prog w= .ok xa' w:=Tryz.zeroValue207 w
def og' (l:List (Nat×Value)):Prop:=∀x∈l,x.2=cQ'
theorem tM' {l:List (Nat×Value)} (h:og' l) (k:Int):(ar' l k=some (cQ'))\/ar' l k=none:=by
 cases r:ar' l k with
 |none=>exact .inr rfl
 |some v=>obtain⟨x,z,_,rfl⟩:=dm' r;have e:=h x z;exact .inl (by rw[e])
theorem va' {w:World} {p o:Nat} {arr:Array Value} {t:TypeId} {nv mv:Value} {l:List (Nat×Value)} (r:w.heap[p]? =some (.cells arr t (0,0))) (h1:arr[o+1]? =some mv) (S:aM' w nv mv l) (A:og' l) (n:Int):
  Calls Tryz.prog 157 #[.pointer (some ⟨p,o,none⟩), .int .i64 n] w fun e w'=>e= .returned (.bool (ar' l n).isSome)/\Below w.heap.size w w':=by
 have c1:w.cell? ⟨p,o+1,none⟩=some mv:=(t' r).trans h1;have z:=(bm' (P:=Tryz.prog) (w:=w) (t:=108) Tryz.underlying108 Tryz.underlying3 (xt' w) S.map n).1;clear S r h1;rcases tM' A n with ⟨h⟩|h;all_goals
  rw[h]at z ⊢;simp only[Option.getD_some,Option.getD_none,Option.isSome_some,Option.isSome_none,cQ',xa']at z ⊢;clear h A;go_enter Tryz.func157,Tryz.ntmps157;go_wp2;go_ret;refine⟨rfl,?_⟩;exact(Below.refl _ _).alloc (Nat.le_refl _) _
theorem vb' {w:World} {p o:Nat} {t:TypeId} {arr:Array Value} {nv mv:Value} {l:List (Nat×Value)} (S:eJ' w p o t arr nv mv l) (hl:l.length < 1000) (n:Nat):
  Calls Tryz.prog 121 #[.pointer (some ⟨p,o,none⟩), .int .i64 n,cQ'] w fun e w'=>e= .returned (.tuple #[])/\cd' w w' p o t arr nv mv (bb' l n (cQ')):=by
 obtain⟨U,h0,h1,S,V⟩:=S;obtain⟨aB,ab⟩:∃m,m=mv:=⟨_,rfl⟩;rw[<-ab];have ab:=y' ab;have c0:w.cell? ⟨p,o,none⟩=some nv:=(t' U).trans h0;have c1:w.cell? ⟨p,o+1,none⟩=some mv:=(t' U).trans h1;unfold cQ';have aC:=lt_of_block U;go_enter Tryz.func121,Tryz.ntmps121;go_upto_region 1 with fail;refine H' (fun x=>x.heap[p]? =some (.cells arr t (0,0))/\x.heap[w.heap.size]? =some (.cells #[] 207 (0,0))/\aM' x nv mv l/\Far (fun _=>False) w x/\w.heap.size < x.heap.size) ?_ ?_
 ·have G:Far (fun _=>False) w (w.alloc (.cells #[] 207)):=C' ((Below.refl _ _).alloc (Nat.le_refl _) _);exact⟨G.blk U id,heap_alloc_new w _,S.far G (fun _ _ h=>h),G,by simp⟩
 clear c0 c1 S;rintro x ⟨z,H,S,G,O⟩;have c0:x.cell? ⟨p,o,none⟩=some nv:=(t' z).trans h0;have c1:x.cell? ⟨p,o+1,none⟩=some mv:=(t' z).trans h1;have aD:x.frozen? ⟨p,o+1,none⟩=false:=by simp[World.frozen?,z]
 have aE:= @run_makeMap Tryz.prog;have aF:∀y:World,(binOp .eql 108 (.map none) (.map none)).run Tryz.prog y= .ok (.bool true) y:=fun y=>by kernel_rfl
 have aG:∀ (y:World) (m:Nat),(binOp .eql 108 (.map (some m)) (.map none)).run Tryz.prog y= .ok (.bool false) y:=fun y m=>by kernel_rfl
 have ac:(x.alloc (.map #[] 0)).heap[p]? =some (.cells arr t (0,0)):=(Below.heap_alloc x _ p (lt_of_block z)).trans z;have aH:(x.alloc (.map #[] 0)).cell? ⟨p,o+1,none⟩=some mv:=(t' ac).trans h1;have aI:(x.alloc (.map #[] 0)).frozen? ⟨p,o+1,none⟩=false:=by simp[World.frozen?,ac]
 rcases S.map with ⟨rfl,ad⟩|⟨Q,rfl,ad⟩;all_goals
  go_upto_region 3 with fail
  refine H' (fun y=>∃Q,y.heap[p]? =some (.cells (arr.setIfInBounds (o+1) (.map (some Q))) t (0,0))/\y.heap[w.heap.size]? =some (.cells #[] 207 (0,0))/\aI' y nv (l.map (·.1))/\aZ' y Q (ar' l)/\
   Far (fun k=>k=p) w y/\w.heap.size < y.heap.size/\(aT' aB=some Q\/w.heap.size<=Q)) ?_ ?_
 ·refine⟨x.heap.size,ah' ac,(aa' (by omega)).trans ((Below.heap_alloc x _ _ O).trans H),?_,?_,?_,?_, .inr (Nat.le_of_lt O)⟩
  ·exact S.nums.keep (fun g I=>(aa' (fun e=>S.ne z V (.inl (by rw[<-e];exact I)))).trans (Below.heap_alloc x _ g (World.ownsRow.lt S.nums g I).2))
  ·rw[ad];exact(gn' x).keep (aa' (by have:=lt_of_block z;omega))
  ·exact((G.mono (fun _ _ h=>h.elim)).trans (C' ((Below.refl _ x).alloc (Nat.le_refl _) _)) (fun _ _ h=>h)).trans (S' _ p (o+1) _) (fun _ _ h=>h)
  ·simp;omega
 rotate_left
 ·refine⟨Q,by rw[bi' h1];exact z,H,S.nums,ad,G.mono (fun _ _ h=>h.elim),O, .inl (by rw[i' ab];rfl)⟩
 all_goals
  have hs:=y' S.sorted;clear c0 c1 ac aH aI aD H S ad z O aE aF aG G aC;rintro y ⟨D,z,H,N,F,ax,O,ay⟩;have az:o < arr.size:=(Array.getElem?_eq_some_iff.1 h0).1;have X:o+1 < arr.size:=(Array.getElem?_eq_some_iff.1 h1).1;have a0:(arr.setIfInBounds (o+1) (.map (some D)))[o]? =some nv:=by rw[Array.getElem?_setIfInBounds_ne (by omega)];exact h0
  have a1:(arr.setIfInBounds (o+1) (.map (some D)))[o+1]? =some (.map (some D)):=by simp[X]
  have c0:y.cell? ⟨p,o,none⟩=some nv:=(t' z).trans a0;have J:=gq' (v:=cQ') (n:=n) (i' hs);have M:=cC' N (i' hs) (by simp;omega) n;have ak:(l.map (·.1)).countP (· < n)<=(l.map (·.1)).length:=List.countP_le_length;have aJ:(l.map (·.1)).length < 1000:=by simpa using hl
  generalize (l.map (·.1)).countP (· < n)=k at J M ak;generalize (l.map (·.1)).contains n=c at J M;generalize l.map (·.1)=ns at J M ak N aJ;replace J:=y' J;replace M:=y' M;cases c
  ·go_upto_region 4 with (go_at_call 125;refine(i' M).mono ?_;rintro e aK ⟨rfl,q,rfl⟩)
   go_upto_region 6 with fail
   refine(fb' (w:=(y.drewN q).alloc (.cells #[.int .i64 n] 3)) (ns:=ns) (N.keep (fun g I=>Below.heap_alloc (y.drewN q) _ g (World.ownsRow.lt N g I).2)) (by omega) k n y.heap.size ak (heap_alloc_new (y.drewN q) _) (fun e=>by have:=(World.ownsRow.lt N _ e).2;omega)).mono ?_;rintro e r ⟨nv',rfl,ah,ai,aL⟩;have aj:=ai.blk ((Below.heap_alloc (y.drewN q) _ p (lt_of_block z)).trans z) (fun e=>(as'.of_own N).ne z (fun e=>V e.symm) e);have aM:=ai.blk ((Below.heap_alloc (y.drewN q) _ _ O).trans H) (fun e=>(as'.of_own N).ne H (by decide) e);have aS:=(t' aj).trans a0;have aT:r.frozen? ⟨p,o,none⟩=false:=by simp[World.frozen?,aj]
   obtain⟨aN,Y⟩:∃x,x=ns.take k++n::ns.drop k:=⟨_,rfl⟩;rw[<-Y]at ah;obtain⟨g',aO,rfl⟩:=gk' ah (by rw[Y];simp only[List.length_append,List.length_cons];omega);replace Y:=y' Y;go_upto_region 6 with fail;refine H' (fun r=>∃nv',r.heap[p]? =some (.cells ((arr.setIfInBounds o nv').setIfInBounds (o+1) (.map (some D))) t (0,0))/\r.heap[w.heap.size]? =some (.cells #[] 207 (0,0))/\aI' r nv' ((bb' l n (cQ')).map (·.1))/\aZ' r D (ar' l)/\
    Far (fun k=>k=p\/nv.ownBlock=some k) w r/\Loc w nv nv') ?_ ?_
   ·have aP:nv.ownBlock≠some D:=N.notMap F;have aQ:∀g,(Value.slice (some ⟨g',0,none⟩) aN.length aO).ownBlock=some g->g≠p:=fun g I e=>(as'.of_own ah).ne aj (fun e=>V e.symm) (by rw[I,e]);have Z:=i' J;simp only[Bool.false_eq_true,if_false]at Z;have aA:Far (fun _=>False) y ((y.drewN q).alloc (.cells #[.int .i64 n] 3)):=(ao' (fun _=>False) y q).trans (C' ((Below.refl _ _).alloc (Nat.le_refl _) _)) (fun _ _ h=>h);have aR:Far (fun b=>b=p\/nv.ownBlock=some b) w r:=(ax.mono (fun _ _ h=> .inl h)).trans ((aA.mono (fun _ _ h=>h.elim)).trans ai (fun _ _ h=>h)) (fun _ _ h=> .inr h);refine⟨_,?_,(aa' (by have:=lt_of_block U;omega)).trans aM,?_,?_,aR.trans (S' r p o _) (fun _ _ h=> .inl h),bH' aL (by simp;omega)⟩
    ·rw[set_comm _ _ (show o≠o+1 by omega)];exact ah' aj
    ·rw[Z,<-i' Y];exact ah.keep (fun g I=>aa' (aQ g I))
    ·exact F.keep ((aa' (fun e=>F.not_cells (by rw[e];exact z))).trans ((ai.rest _ (by have:=F.lt;simp;omega) aP).trans (aA.rest _ F.lt id)))
   ·skip
    rintro r ⟨nv',z,H,ao,F,G,ap⟩;obtain⟨aa,aq,au⟩:=bG' (P:=Tryz.prog) (w:=r) (t:=108) Tryz.underlying108 Tryz.underlying3 F n (cQ');have av:=aq r.drew rfl;unfold cQ' at av;have c1:r.cell? ⟨p,o+1,none⟩=some (.map (some D)):=(t' z).trans (by simp[X]);go_region;refine bodyPost_end (results_none rfl _ _ _) rfl ⟨rfl,?_⟩;exact ek' (v:=cQ') (W:={r.drew with heap:=r.drew.heap.setIfInBounds D aa}) az X z V ao F G ap ay au ((ao' _ r 1).trans (be' D aa) (fun _ _ h=>h)) (i' hs) hl
  ·go_upto_region 4 with (go_at_call 125;refine(i' M).mono ?_;rintro e aK ⟨rfl,q,rfl⟩)
   go_upto_region 6 with fail
   refine H' (fun r=>∃nv',r.heap[p]? =some (.cells ((arr.setIfInBounds o nv').setIfInBounds (o+1) (.map (some D))) t (0,0))/\r.heap[w.heap.size]? =some (.cells #[] 207 (0,0))/\aI' r nv' ((bb' l n (cQ')).map (·.1))/\aZ' r D (ar' l)/\
    Far (fun k=>k=p\/nv.ownBlock=some k) w r/\Loc w nv nv') ?_ ?_
   ·have Z:=i' J;simp only[if_true]at Z;refine⟨nv,?_,H,by rw[Z];exact N,F,(ax.mono (fun _ _ h=> .inl h)).trans (ao' _ y q) (fun _ _ h=>h), .inr (.inl rfl)⟩;rw[bi' h0];exact z
   ·skip
    rintro r ⟨nv',z,H,ao,F,G,ap⟩;obtain⟨aa,aq,au⟩:=bG' (P:=Tryz.prog) (w:=r) (t:=108) Tryz.underlying108 Tryz.underlying3 F n (cQ');have av:=aq r.drew rfl;unfold cQ' at av;have c1:r.cell? ⟨p,o+1,none⟩=some (.map (some D)):=(t' z).trans (by simp[X]);go_region;refine bodyPost_end (results_none rfl _ _ _) rfl ⟨rfl,?_⟩;exact ek' (v:=cQ') (W:={r.drew with heap:=r.drew.heap.setIfInBounds D aa}) az X z V ao F G ap ay au ((ao' _ r 1).trans (be' D aa) (fun _ _ h=>h)) (i' hs) hl
theorem la' {w:World} {p o:Nat} {t:TypeId} {arr:Array Value} {nv mv:Value} {l:List (Nat×Value)} (S:eJ' w p o t arr nv mv l):
  Calls Tryz.prog 119 #[.pointer (some ⟨p,o,none⟩)] w fun e w'=>e= .returned (.tuple #[])/\cd' w w' p o t arr nv mv []:=by
 obtain⟨H,h0,h1,S,O⟩:=S;have X:o < arr.size:=(Array.getElem?_eq_some_iff.1 h0).1;have Y:o+1 < arr.size:=(Array.getElem?_eq_some_iff.1 h1).1;obtain⟨I,D⟩:∃m,m=mv:=⟨_,rfl⟩;rw[<-D];replace D:=y' D;have c1:w.cell? ⟨p,o+1,none⟩=some mv:=(t' H).trans h1;have ab:=S.nums.cases;have F:(mv= .map none/\∀ty,(Builtin.clear_ #[108] ty #[.map none]).run Tryz.prog w= .ok (.tuple #[]) w)\/
   ∃b o,mv= .map (some b)/\b≠p/\nv.ownBlock≠some b/\(∀ty,(Builtin.clear_ #[108] ty #[.map (some b)]).run Tryz.prog w= .ok (.tuple #[]) {w with heap:=w.heap.setIfInBounds b o})/\aZ' {w with heap:=w.heap.setIfInBounds b o} b (fun _=>none):=by
  rcases S.map with ⟨rfl,F⟩|⟨J,rfl,F⟩
  ·exact .inl ⟨rfl,fun ty=>fC' Tryz.underlying108⟩
  ·obtain⟨Q,ac,U⟩:=fB' (P:=Tryz.prog) (w:=w) (t:=108) Tryz.underlying108 F;exact .inr ⟨J,Q,rfl,fun e=>F.not_cells (by rw[e];exact H),S.nums.notMap F,fun ty=>ac ty w rfl,U⟩
 rcases F with ⟨rfl,ad⟩|⟨J,Q,rfl,ah,ai,ad,U⟩;all_goals
  go_enter Tryz.func119,Tryz.ntmps119;go_upto_region 1 with fail;refine H' (fun x=>x.heap[p]? =some (.cells arr t (0,0))/\aI' x nv (l.map (·.1))/\kn' x I (ar' [])/\Far (fun k=>k=p\/ShU nv I k) w x) ?_ ?_
 ·exact⟨H,S.nums,by rw[i' D];exact .inl ⟨rfl,dR'⟩,Far.refl _ _⟩
 rotate_left
 ·have G:=be' (w:=w) J Q;refine⟨G.blk H (fun e=>ah e.symm),S.nums.keep (fun g Z=>G.rest g (World.ownsRow.lt S.nums g Z).2 (fun e=>ai (by rw[Z,e]))),by rw[i' D];exact .inr ⟨J,rfl,by rw[dR'];exact U⟩,G.mono (fun k _ e=> .inr (.inr (by rw[i' D,e];rfl)))⟩
 all_goals
  clear S;rintro x ⟨r,N,M,G⟩;have c0:x.cell? ⟨p,o,none⟩=some nv:=(t' r).trans h0;have aq:x.frozen? ⟨p,o,none⟩=false:=by simp[World.frozen?,r]
  rcases ab with ⟨rfl,_⟩|⟨g,cap,au,rfl,av,ax,aj,ay,az⟩
  ·go_wp2;refine bodyPost_end (results_none rfl _ _ _) rfl ⟨rfl,?_⟩;refine⟨⟨_,I,⟨?_,?_,?_,⟨bR' _,M.keep (fun b z=>aa' (fun e=>?_)),by simp,by simp⟩,O⟩, .inr (.inl rfl), .inl rfl⟩,G.trans (S' x p o _) (fun _ _ h=> .inl h)⟩
   ·have:=ah' (j:=o) (v:= .slice none 0 0) r;rw[bi' (i:=o+1)]
    ·exact this
    ·rw[Array.getElem?_setIfInBounds_ne (by omega),h1,i' D]
   ·rw[Array.getElem?_setIfInBounds_ne (by omega)];simp[X]
   ·simp[Y]
   ·rcases M with ⟨h,_⟩|⟨ak,h,V⟩
    ·rw[h]at z;cases z
    ·rw[h]at z;cases z;exact V.not_cells (by rw[e];exact r)
  ·go_wp2;refine bodyPost_end (results_none rfl _ _ _) rfl ⟨rfl,?_⟩;rcases N.cases with ⟨h,_⟩|⟨g',aA,aB,h,aa,aC,aD,ao,aE⟩
   ·cases h
   ·injection h with h _ h3;injection h with h;injection h with h;subst h h3;have ap:g≠p:=fun e=>by subst e;rw[aa]at r;injection r with r;injection r with _ r _;exact O r.symm
    refine⟨⟨_,I,⟨?_,?_,?_,⟨go' (ns:=[]) ((aa' ap).trans aa) (Nat.zero_le _) aj ao rfl,M.keep (fun b z=>aa' (fun e=>?_)),by simp,by simp⟩,O⟩, .inr (.inl rfl), .inl rfl⟩,G.trans (S' x p o _) (fun _ _ h=> .inl h)⟩
    ·rw[bi' (i:=o+1)]
     ·exact ah' (j:=o) r
     ·rw[Array.getElem?_setIfInBounds_ne (by omega),h1,i' D]
    ·rw[Array.getElem?_setIfInBounds_ne (by omega)];simp[X]
    ·simp[Y]
    ·rcases M with ⟨h,_⟩|⟨ak,h,V⟩
     ·rw[h]at z;cases z
     ·rw[h]at z;cases z;exact V.not_cells (by rw[e];exact r)
def dD' (m:Nat):Value:= .int .i64 m
def sV':Value:= .int .i64 0
theorem vc' (w:World):(zeroValue 3).run Tryz.prog w= .ok sV' w:=Tryz.zeroValue3 w
def lb' (l:List (Nat×Value)):Prop:=∀x∈l,∃m,x.2=dD' m
theorem tN' {l:List (Nat×Value)} (h:lb' l) (k:Int):(∃m,ar' l k=some (dD' m))\/ar' l k=none:=by
 cases r:ar' l k with
 |none=>exact .inr rfl
 |some v=>obtain⟨x,z,_,rfl⟩:=dm' r;obtain⟨m,e⟩:=h x z;exact .inl ⟨m,by rw[e]⟩
theorem vd' {w:World} {p o:Nat} {t:TypeId} {arr:Array Value} {nv mv:Value} {l:List (Nat×Value)} (S:eJ' w p o t arr nv mv l) (hl:l.length < 1000) (n:Nat) (m:Nat):
  Calls Tryz.prog 107 #[.pointer (some ⟨p,o,none⟩), .int .i64 n,dD' m] w fun e w'=>e= .returned (.tuple #[])/\cd' w w' p o t arr nv mv (bb' l n (dD' m)):=by
 obtain⟨Y,h0,h1,S,O⟩:=S;obtain⟨aA,Z⟩:∃m,m=mv:=⟨_,rfl⟩;rw[<-Z];have Z:=y' Z;have c0:w.cell? ⟨p,o,none⟩=some nv:=(t' Y).trans h0;have c1:w.cell? ⟨p,o+1,none⟩=some mv:=(t' Y).trans h1;unfold dD';have aB:=lt_of_block Y;go_enter Tryz.func107,Tryz.ntmps107;refine H' (fun x=>x.heap[p]? =some (.cells arr t (0,0))/\aM' x nv mv l/\Far (fun _=>False) w x/\w.heap.size<=x.heap.size) ?_ ?_
 ·exact⟨Y,S,Far.refl _ w,Nat.le_refl _⟩
 clear c0 c1 S;rintro x ⟨z,S,H,aa⟩;have c0:x.cell? ⟨p,o,none⟩=some nv:=(t' z).trans h0;have c1:x.cell? ⟨p,o+1,none⟩=some mv:=(t' z).trans h1;have aC:x.frozen? ⟨p,o+1,none⟩=false:=by simp[World.frozen?,z]
 have aD:= @run_makeMap Tryz.prog;have aE:∀y:World,(binOp .eql 105 (.map none) (.map none)).run Tryz.prog y= .ok (.bool true) y:=fun y=>by kernel_rfl
 have aF:∀ (y:World) (m:Nat),(binOp .eql 105 (.map (some m)) (.map none)).run Tryz.prog y= .ok (.bool false) y:=fun y m=>by kernel_rfl
 have ab:(x.alloc (.map #[] 0)).heap[p]? =some (.cells arr t (0,0)):=(Below.heap_alloc x _ p (lt_of_block z)).trans z;have aG:(x.alloc (.map #[] 0)).cell? ⟨p,o+1,none⟩=some mv:=(t' ab).trans h1;have aH:(x.alloc (.map #[] 0)).frozen? ⟨p,o+1,none⟩=false:=by simp[World.frozen?,ab]
 rcases S.map with ⟨rfl,ac⟩|⟨M,rfl,ac⟩;all_goals
  go_upto_region 2 with fail
  refine H' (fun y=>∃M,y.heap[p]? =some (.cells (arr.setIfInBounds (o+1) (.map (some M))) t (0,0))/\aI' y nv (l.map (·.1))/\aZ' y M (ar' l)/\
   Far (fun k=>k=p) w y/\w.heap.size<=y.heap.size/\(aT' aA=some M\/w.heap.size<=M)) ?_ ?_
 ·refine⟨x.heap.size,ah' ab,?_,?_,?_,?_, .inr aa⟩
  ·exact S.nums.keep (fun g G=>(aa' (fun e=>S.ne z O (.inl (by rw[<-e];exact G)))).trans (Below.heap_alloc x _ g (World.ownsRow.lt S.nums g G).2))
  ·rw[ac];exact(gn' x).keep (aa' (by have:=lt_of_block z;omega))
  ·exact((H.mono (fun _ _ h=>h.elim)).trans (C' ((Below.refl _ x).alloc (Nat.le_refl _) _)) (fun _ _ h=>h)).trans (S' _ p (o+1) _) (fun _ _ h=>h)
  ·simp;omega
 rotate_left
 ·refine⟨M,by rw[bi' h1];exact z,S.nums,ac,H.mono (fun _ _ h=>h.elim),aa, .inl (by rw[i' Z];rfl)⟩
 all_goals
  have hs:=y' S.sorted;clear c0 c1 ab aG aH aC S ac z aa aD aE aF H aB;rintro y ⟨D,z,N,F,av,aa,ax⟩;have ay:o < arr.size:=(Array.getElem?_eq_some_iff.1 h0).1;have Q:o+1 < arr.size:=(Array.getElem?_eq_some_iff.1 h1).1;have a0:(arr.setIfInBounds (o+1) (.map (some D)))[o]? =some nv:=by rw[Array.getElem?_setIfInBounds_ne (by omega)];exact h0
  have a1:(arr.setIfInBounds (o+1) (.map (some D)))[o+1]? =some (.map (some D)):=by simp[Q]
  have c0:y.cell? ⟨p,o,none⟩=some nv:=(t' z).trans a0;have I:=gq' (v:=dD' m) (n:=n) (i' hs);have J:=cC' N (i' hs) (by simp;omega) n;have ai:(l.map (·.1)).countP (· < n)<=(l.map (·.1)).length:=List.countP_le_length;have aI:(l.map (·.1)).length < 1000:=by simpa using hl
  generalize (l.map (·.1)).countP (· < n)=k at I J ai;generalize (l.map (·.1)).contains n=c at I J;generalize l.map (·.1)=ns at I J ai N aI;replace I:=y' I;replace J:=y' J;cases c
  ·go_upto_region 3 with (go_at_call 125;refine(i' J).mono ?_;rintro e aJ ⟨rfl,q,rfl⟩)
   go_upto_region 5 with fail
   refine(fb' (w:=(y.drewN q).alloc (.cells #[.int .i64 n] 3)) (ns:=ns) (N.keep (fun g G=>Below.heap_alloc (y.drewN q) _ g (World.ownsRow.lt N g G).2)) (by omega) k n y.heap.size ai (heap_alloc_new (y.drewN q) _) (fun e=>by have:=(World.ownsRow.lt N _ e).2;omega)).mono ?_;rintro e r ⟨nv',rfl,ad,aj,aK⟩;have ah:=aj.blk ((Below.heap_alloc (y.drewN q) _ p (lt_of_block z)).trans z) (fun e=>(as'.of_own N).ne z (fun e=>O e.symm) e);have aQ:=(t' ah).trans a0;have aR:r.frozen? ⟨p,o,none⟩=false:=by simp[World.frozen?,ah]
   obtain⟨aL,U⟩:∃x,x=ns.take k++n::ns.drop k:=⟨_,rfl⟩;rw[<-U]at ad;obtain⟨g',aM,rfl⟩:=gk' ad (by rw[U];simp only[List.length_append,List.length_cons];omega);replace U:=y' U;go_upto_region 5 with fail;refine H' (fun r=>∃nv',r.heap[p]? =some (.cells ((arr.setIfInBounds o nv').setIfInBounds (o+1) (.map (some D))) t (0,0))/\aI' r nv' ((bb' l n (dD' m)).map (·.1))/\aZ' r D (ar' l)/\
    Far (fun k=>k=p\/nv.ownBlock=some k) w r/\Loc w nv nv') ?_ ?_
   ·have aN:nv.ownBlock≠some D:=N.notMap F;have aO:∀g,(Value.slice (some ⟨g',0,none⟩) aL.length aM).ownBlock=some g->g≠p:=fun g G e=>(as'.of_own ad).ne ah (fun e=>O e.symm) (by rw[G,e]);have V:=i' I;simp only[Bool.false_eq_true,if_false]at V;have az:Far (fun _=>False) y ((y.drewN q).alloc (.cells #[.int .i64 n] 3)):=(ao' (fun _=>False) y q).trans (C' ((Below.refl _ _).alloc (Nat.le_refl _) _)) (fun _ _ h=>h);have aP:Far (fun b=>b=p\/nv.ownBlock=some b) w r:=(av.mono (fun _ _ h=> .inl h)).trans ((az.mono (fun _ _ h=>h.elim)).trans aj (fun _ _ h=>h)) (fun _ _ h=> .inr h);refine⟨_,?_,?_,?_,aP.trans (S' r p o _) (fun _ _ h=> .inl h),bH' aK (by simp;omega)⟩
    ·rw[set_comm _ _ (show o≠o+1 by omega)];exact ah' ah
    ·rw[V,<-i' U];exact ad.keep (fun g G=>aa' (aO g G))
    ·exact F.keep ((aa' (fun e=>F.not_cells (by rw[e];exact z))).trans ((aj.rest _ (by have:=F.lt;simp;omega) aN).trans (az.rest _ F.lt id)))
   ·skip
    rintro r ⟨nv',z,ak,F,H,ao⟩;obtain⟨X,ap,aq⟩:=bG' (P:=Tryz.prog) (w:=r) (t:=105) Tryz.underlying105 Tryz.underlying3 F n (dD' m);have au:=ap r rfl;unfold dD' at au;have c1:r.cell? ⟨p,o+1,none⟩=some (.map (some D)):=(t' z).trans (by simp[Q]);go_wp2;refine bodyPost_end (results_none rfl _ _ _) rfl ⟨rfl,?_⟩;exact ek' (v:=dD' m) (W:={r with heap:=r.heap.setIfInBounds D X}) ay Q z O ak F H ao ax aq (be' D X) (i' hs) hl
  ·go_upto_region 3 with (go_at_call 125;refine(i' J).mono ?_;rintro e aJ ⟨rfl,q,rfl⟩)
   go_upto_region 5 with fail
   refine H' (fun r=>∃nv',r.heap[p]? =some (.cells ((arr.setIfInBounds o nv').setIfInBounds (o+1) (.map (some D))) t (0,0))/\aI' r nv' ((bb' l n (dD' m)).map (·.1))/\aZ' r D (ar' l)/\
    Far (fun k=>k=p\/nv.ownBlock=some k) w r/\Loc w nv nv') ?_ ?_
   ·have V:=i' I;simp only[if_true]at V;refine⟨nv,?_,by rw[V];exact N,F,(av.mono (fun _ _ h=> .inl h)).trans (ao' _ y q) (fun _ _ h=>h), .inr (.inl rfl)⟩;rw[bi' h0];exact z
   ·skip
    rintro r ⟨nv',z,ak,F,H,ao⟩;obtain⟨X,ap,aq⟩:=bG' (P:=Tryz.prog) (w:=r) (t:=105) Tryz.underlying105 Tryz.underlying3 F n (dD' m);have au:=ap r rfl;unfold dD' at au;have c1:r.cell? ⟨p,o+1,none⟩=some (.map (some D)):=(t' z).trans (by simp[Q]);go_wp2;refine bodyPost_end (results_none rfl _ _ _) rfl ⟨rfl,?_⟩;exact ek' (v:=dD' m) (W:={r with heap:=r.heap.setIfInBounds D X}) ay Q z O ak F H ao ax aq (be' D X) (i' hs) hl
theorem rC' {w:World} {p o:Nat} {t:TypeId} {arr:Array Value} {nv mv:Value} {l:List (Nat×Value)} (S:eJ' w p o t arr nv mv l):
  Calls Tryz.prog 118 #[.pointer (some ⟨p,o,none⟩)] w fun e w'=>e= .returned (.tuple #[])/\cd' w w' p o t arr nv mv []:=by
 obtain⟨H,h0,h1,S,O⟩:=S;have X:o < arr.size:=(Array.getElem?_eq_some_iff.1 h0).1;have Y:o+1 < arr.size:=(Array.getElem?_eq_some_iff.1 h1).1;obtain⟨I,D⟩:∃m,m=mv:=⟨_,rfl⟩;rw[<-D];replace D:=y' D;have c1:w.cell? ⟨p,o+1,none⟩=some mv:=(t' H).trans h1;have ab:=S.nums.cases;have F:(mv= .map none/\∀ty,(Builtin.clear_ #[105] ty #[.map none]).run Tryz.prog w= .ok (.tuple #[]) w)\/
   ∃b o,mv= .map (some b)/\b≠p/\nv.ownBlock≠some b/\(∀ty,(Builtin.clear_ #[105] ty #[.map (some b)]).run Tryz.prog w= .ok (.tuple #[]) {w with heap:=w.heap.setIfInBounds b o})/\aZ' {w with heap:=w.heap.setIfInBounds b o} b (fun _=>none):=by
  rcases S.map with ⟨rfl,F⟩|⟨J,rfl,F⟩
  ·exact .inl ⟨rfl,fun ty=>fC' Tryz.underlying105⟩
  ·obtain⟨Q,ac,U⟩:=fB' (P:=Tryz.prog) (w:=w) (t:=105) Tryz.underlying105 F;exact .inr ⟨J,Q,rfl,fun e=>F.not_cells (by rw[e];exact H),S.nums.notMap F,fun ty=>ac ty w rfl,U⟩
 rcases F with ⟨rfl,ad⟩|⟨J,Q,rfl,ah,ai,ad,U⟩;all_goals
  go_enter Tryz.func118,Tryz.ntmps118;go_upto_region 1 with fail;refine H' (fun x=>x.heap[p]? =some (.cells arr t (0,0))/\aI' x nv (l.map (·.1))/\kn' x I (ar' [])/\Far (fun k=>k=p\/ShU nv I k) w x) ?_ ?_
 ·exact⟨H,S.nums,by rw[i' D];exact .inl ⟨rfl,dR'⟩,Far.refl _ _⟩
 rotate_left
 ·have G:=be' (w:=w) J Q;refine⟨G.blk H (fun e=>ah e.symm),S.nums.keep (fun g Z=>G.rest g (World.ownsRow.lt S.nums g Z).2 (fun e=>ai (by rw[Z,e]))),by rw[i' D];exact .inr ⟨J,rfl,by rw[dR'];exact U⟩,G.mono (fun k _ e=> .inr (.inr (by rw[i' D,e];rfl)))⟩
 all_goals
  clear S;rintro x ⟨r,N,M,G⟩;have c0:x.cell? ⟨p,o,none⟩=some nv:=(t' r).trans h0;have aq:x.frozen? ⟨p,o,none⟩=false:=by simp[World.frozen?,r]
  rcases ab with ⟨rfl,_⟩|⟨g,cap,au,rfl,av,ax,aj,ay,az⟩
  ·go_wp2;refine bodyPost_end (results_none rfl _ _ _) rfl ⟨rfl,?_⟩;refine⟨⟨_,I,⟨?_,?_,?_,⟨bR' _,M.keep (fun b z=>aa' (fun e=>?_)),by simp,by simp⟩,O⟩, .inr (.inl rfl), .inl rfl⟩,G.trans (S' x p o _) (fun _ _ h=> .inl h)⟩
   ·have:=ah' (j:=o) (v:= .slice none 0 0) r;rw[bi' (i:=o+1)]
    ·exact this
    ·rw[Array.getElem?_setIfInBounds_ne (by omega),h1,i' D]
   ·rw[Array.getElem?_setIfInBounds_ne (by omega)];simp[X]
   ·simp[Y]
   ·rcases M with ⟨h,_⟩|⟨ak,h,V⟩
    ·rw[h]at z;cases z
    ·rw[h]at z;cases z;exact V.not_cells (by rw[e];exact r)
  ·go_wp2;refine bodyPost_end (results_none rfl _ _ _) rfl ⟨rfl,?_⟩;rcases N.cases with ⟨h,_⟩|⟨g',aA,aB,h,aa,aC,aD,ao,aE⟩
   ·cases h
   ·injection h with h _ h3;injection h with h;injection h with h;subst h h3;have ap:g≠p:=fun e=>by subst e;rw[aa]at r;injection r with r;injection r with _ r _;exact O r.symm
    refine⟨⟨_,I,⟨?_,?_,?_,⟨go' (ns:=[]) ((aa' ap).trans aa) (Nat.zero_le _) aj ao rfl,M.keep (fun b z=>aa' (fun e=>?_)),by simp,by simp⟩,O⟩, .inr (.inl rfl), .inl rfl⟩,G.trans (S' x p o _) (fun _ _ h=> .inl h)⟩
    ·rw[bi' (i:=o+1)]
     ·exact ah' (j:=o) r
     ·rw[Array.getElem?_setIfInBounds_ne (by omega),h1,i' D]
    ·rw[Array.getElem?_setIfInBounds_ne (by omega)];simp[X]
    ·simp[Y]
    ·rcases M with ⟨h,_⟩|⟨ak,h,V⟩
     ·rw[h]at z;cases z
     ·rw[h]at z;cases z;exact V.not_cells (by rw[e];exact r)
theorem ve' {w:World} {p o:Nat} {arr:Array Value} {t:TypeId} {nv mv:Value} {l:List (Nat×Value)} (r:w.heap[p]? =some (.cells arr t (0,0))) (h1:arr[o+1]? =some mv) (S:aM' w nv mv l) (A:lb' l) (n:Int):
  Calls Tryz.prog 158 #[.pointer (some ⟨p,o,none⟩), .int .i64 n] w fun e w'=>e= .returned (.tuple #[(ar' l n).getD sV', .bool (ar' l n).isSome])/\w'=w:=by
 have c1:w.cell? ⟨p,o+1,none⟩=some mv:=(t' r).trans h1;have z:=(bm' (P:=Tryz.prog) (w:=w) (t:=105) Tryz.underlying105 Tryz.underlying3 (vc' w) S.map n).1;clear S r h1;rcases tN' A n with ⟨m,h⟩|h;all_goals
  rw[h]at z ⊢;simp only[Option.getD_some,Option.getD_none,Option.isSome_some,Option.isSome_none,dD',sV']at z ⊢;clear h A;go_enter Tryz.func158,Tryz.ntmps158;go_wp2;go_ret2;exact⟨rfl,rfl⟩
theorem xu':(Tryz.prog.info? 3).map (fun i=>(i.zero,i.size,i.bytes))=some (some (.int .i64 0),1,8):=by kernel_rfl
theorem mB' {w:World} {p o:Nat} {t:TypeId} {arr:Array Value} {nv mv:Value} {l:List (Nat×Value)} (S:eJ' w p o t arr nv mv l) (A:lb' l) (n:Nat):
  Calls Tryz.prog 167 #[.pointer (some ⟨p,o,none⟩), .int .i64 n] w fun e w'=>∃v,e= .returned v/\
   w'.ownsRow w.heap.size 3 1 v (bs' l n) (eK' (l.take (bs' l n)))/\dS' w w' p o t arr nv mv (l.drop (bs' l n)):=by
 obtain⟨Z,h0,h1,S,ao⟩:=S;have aK:o < arr.size:=(Array.getElem?_eq_some_iff.1 h0).1;have bE:o+1 < arr.size:=(Array.getElem?_eq_some_iff.1 h1).1;have c0:w.cell? ⟨p,o,none⟩=some nv:=(t' Z).trans h0;have bF:=S.len;have aa:=cC' S.nums S.sorted (by simp;omega) n;have hcut:=uQ' (n:=n) S.sorted;have aL:=uR' l n;have aM:(l.map (·.1)).countP (· < n)<=l.length:=by have:=List.countP_le_length (p:=(· < n)) (l:=l.map (·.1));simpa using this
 obtain⟨i0,hi,bc,be,bf⟩:=bp' xu';generalize bs' l n=U at *;generalize (l.map (·.1)).countP (· < n)=k0 at *;generalize (l.map (·.1)).contains n=c at *;have D:(l.map (·.1)).length=l.length:=List.length_map _;have ab:=y' S;have bG:=y' D;replace aa:=y' aa;rcases S.nums.cases with ⟨ap,aN⟩|⟨g,cap,bH,ap,aO,bg,aP,bI,bh⟩
 ·subst ap;obtain rfl:l=[]:=by simpa using aN
  obtain rfl:U=0:=by simpa using aL
  obtain rfl:k0=0:=by simpa using aM
  have aP:c=false:=by cases c <;> simp_all
  subst aP;have J:=fun y:World=>dQ' (bR' y) 0 0 (by omega) (by simp);simp only[show((0:Nat):Int)=0 from rfl,List.take_nil,List.drop_nil,List.nil_append]at J;have bi:=fun y=>y' (J y);clear S D J hcut aM aL aN;simp only[show((0:Nat):Int)=0 from rfl]at aa;go_enter Tryz.func167,Tryz.ntmps167;go_upto_region 5 with (go_at_call 125;refine(i' aa).mono ?_;rintro e y ⟨rfl,q,rfl⟩);go_wp2;go_loopw[5,9,29] (fun v5 _ i wr=>v5= .slice none 0 0/\i= .int .i64 0/\wr=w.drewN q) (fun _ _ i _=>0)
  case atStart=>exact⟨rfl,rfl,rfl⟩
  case round=>
   obtain⟨rfl,rfl,rfl⟩:=hrel;go_upto_region 12 with fail;refine(i' (bi _)).mono ?_;rintro e z ⟨nv',rfl,M,G,V⟩;obtain rfl:nv'= .slice none 0 0:=by
    rcases M.cases with ⟨h,_⟩|⟨g',aQ,bJ,rfl,_⟩
    ·exact h
    ·cases V
   have ad:Far (fun _=>False) w z:=(ao' (fun _=>False) w q).trans (G.mono (fun _ _ h=>by cases h)) (fun _ _ h=>h);have X:=ad.blk Z id;have bj:=(t' X).trans h0;have bk:z.frozen? ⟨p,o,none⟩=false:=by simp[World.frozen?,X]
   replace M:=y' M;replace ad:=y' ad;clear G V;go_wp2;go_ret;have aq:=i' ab;have bK:z.setCell ⟨p,o,none⟩ (.slice none 0 0)=z.setCell ⟨p,o,none⟩ (.slice none 0 0):=rfl;refine⟨_,rfl,World.ownsRow_nil _ _ _ _,⟨_,⟨ah' X,by simp[aK],by rw[Array.getElem?_setIfInBounds_ne (by omega)];exact h1,⟨bR' _,(aq.far (i' ad) (fun _ _ h=>h)).map.keep (fun b H=>aa' (fun e=>?_)),by simp,by simp⟩,ao⟩,rfl⟩,((i' ad).mono (fun _ _ h=>h.elim)).trans (S' z p o _) (fun _ _ h=> .inl h)⟩;exact aq.ne Z ao (.inr (by rw[H,e]))
 ·rw[D]at ap bg;subst ap;have bL:=y' S.nums;cases c;all_goals
   simp only[if_true,if_false,Bool.false_eq_true,Nat.add_zero]at hcut;clear S bh D;try (rw[hcut]at aa)
   have bl:((k0:Int)+1=(U:Int))=((k0:Int)+1=(U:Int)):=rfl;try (have bl:(k0:Int)+1=U:=by omega)
   replace hcut:=y' hcut;go_enter Tryz.func167,Tryz.ntmps167;go_upto_region 5 with (go_at_call 125;refine(i' aa).mono ?_;rintro e y ⟨rfl,q,rfl⟩)
  all_goals
   go_wp2;go_loopw[5,9,29] (fun v5 _ i wr=>∃k:Nat,k<=U/\i= .int .i64 k/\wr.ownsRow w.heap.size 3 1 v5 k (eK' (l.take k))/\wr.heap[p]? =some (.cells arr t (0,0))/\aI' wr (.slice (some ⟨g,0,none⟩) l.length cap) (l.map (·.1))/\kn' wr mv (ar' (l.drop k))/\Far (fun b=>aT' mv=some b) w wr) (fun _ _ i _=>l.length - (intOf i).toNat)
   case atStart=>exact⟨0,by omega,rfl,World.ownsRow_nil _ _ _ _,Z,(i' ab).nums,by rw[List.drop_zero];exact(i' ab).map,ao' _ w q⟩
   case round=>
    obtain⟨k,bM,rfl,au,F,N,aB,av⟩:=hrel;by_cases bN:k < U
    ·have D:k < l.length:=by omega
     obtain⟨m,ax⟩:=A l[k] (List.getElem_mem D);have ay:l.drop k=l[k]::l.drop (k+1):=List.drop_eq_getElem_cons D;have O:ar' (l.drop k) (l[k].1:Int)=some l[k].2:=by rw[ay,bY',if_pos rfl]
     have aR:=(i' ab).sorted;have aS:∀y∈l.drop (k+1),l[k].1 < y.1:=fun y bm=>by
      have h1:((l.drop k).map (·.1)).Pairwise (· < ·):=by rw[List.map_drop];exact aR.drop
      rw[ay,List.map_cons,List.pairwise_cons]at h1;exact h1.1 y.1 (List.mem_map.2 ⟨y,bm,rfl⟩)
     have aC:=kV' aS;rw[<-ay]at aC;have aD:eK' (l.take (k+1))=eK' (l.take k)++fH' l[k].2:=by rw[<-ng',List.take_add_one,List.getElem?_eq_getElem D];rfl
     have c0:=(t' F).trans h0;have c1:=(t' F).trans h1;have bO:wr.cell? ⟨g,k,none⟩=some (.int .i64 (l[k].1:Int)):=by rw[N.cell' (by simpa using D)];simp[List.getD_eq_getElem?_getD,D]
     rcases aB with ⟨rfl,ah⟩|⟨I,rfl,ah⟩
     ·rw[ah]at O;cases O
     have aT:=(bm' (P:=Tryz.prog) (w:=wr) (t:=105) Tryz.underlying105 Tryz.underlying3 (vc' wr) (.inr ⟨I,rfl,ah⟩) (l[k].1:Int)).2;rw[O,ax]at aT;rw[ax]at aD;simp only[Option.getD_some,dD']at aT;have bn:=y' aD;have bo:=y' aC;have ai:=y' au;have aj:=y' N;have ac:=y' ah;have az:=y' av;have bP:=y' ax;clear au N ah av aD aC O ax ay aS aR;generalize aU:l[k].1=bp at *;replace aU:=y' aU;have aV:=(i' az).size;have bq:I < w.heap.size:=(i' ab).map.lt I rfl;have aW:=lt_of_block Z;have br:=fun g' (r:u5.ownBlock=some g')=>World.ownsRow.lt (i' ai) g' r;go_upto_region 9 with (at_builtin;refine wpList_append_own _ rfl (.tmp 33) (.tmp 40) 101 rfl w.heap.size 3 i0 (.int .i64 0) 1 8 Tryz.underlying101 hi bc be bf rfl (by decide) u5 k (eK' (l.take k)) rfl ((i' ai).alloc _) ⟨wr.heap.size,0,none⟩ 1 1 (fH' (dD' m)) rfl rfl bX' (by intro u hu;simp[fH',dD']at hu;first|(rcases hu with rfl|rfl <;> rfl)|(subst hu;rfl)) (by unfold maxLen;omega) (by omega) (by simp;omega) ?_;intro bQ Q ak aX _;have Y:Below w.heap.size wr Q:=((Below.refl _ wr).alloc aV _).trans (ac' (B:=w.heap.size) aX (by simp;omega) (fun g' r=>(br g' r).1));obtain⟨aE,aY,aF⟩:=eZ' (P:=Tryz.prog) (w:=Q) (t:=105) (K':=3) Tryz.underlying105 Tryz.underlying3 ((i' ac).keep (Y.block I bq)) bp;have bR:=fun ty=>aY ty Q rfl;have aG:=(Y.block p aW).trans F;have bS:=(t' aG).trans h1;replace ak:=y' ak;replace aF:=y' aF;replace Y:=y' Y;clear aX aY);go_wp2;have bt:p≠I:=fun e=>(i' ac).not_cells (by rw[<-e];exact F);have bu:=(i' aj).notMap (i' ac);have bT:=(World.ownsRow.lt (i' aj) g rfl).2;have aH:g < w.heap.size:=lt_of_block aO;have aA:=be' (w:=Q) I aE;have bw:=(i' aj).keep (w':={Q with heap:=Q.heap.setIfInBounds I aE}) (fun g' r=>by cases r;exact(aA.rest g (Nat.lt_of_lt_of_le aH (Nat.le_trans aV (i' Y).size)) (fun e=>bu (by rw[e];rfl))).trans ((i' Y).block g aH));have bz:=dg' (w':={Q with heap:=Q.heap.setIfInBounds I aE}) (i' ak) (fun g' r=>aA.rest g' (World.ownsRow.lt (i' ak) g' r).2 (fun e=>by have:=(World.ownsRow.lt (i' ak) g' r).1;omega));refine⟨⟨k+1,by omega,by go_num,by rw[i' bn];exact bz,(aA.rest p (lt_of_block aG) bt).trans aG,bw, .inr ⟨I,rfl,by rw[<-i' bo];exact i' aF⟩,
      ((i' az).behind (i' Y)).trans aA (fun _ _ h=>by rw[h];rfl)⟩,by simp[intOf];omega⟩
    ·obtain rfl:k=U:=by omega
     have ai:=y' au;have aj:=y' N;have ac:=y' aB;have az:=y' av;have bA:(l.map (·.1)).length=l.length:=List.length_map _;have aZ:g≠p:=fun e=>(as'.of_own N).ne F (fun e=>ao e.symm) (by rw[<-e];rfl);have c0:=(t' F).trans h0;have J:=dQ' N 0 k (by omega) (by omega);rw[show((0:Nat):Int)=0 from rfl,List.take_zero,List.nil_append,<-List.map_drop]at J;replace J:=y' J;clear au N aB av bA;go_upto_region 12 with fail;refine(i' J).mono ?_;rintro e z ⟨nv',rfl,M,G,V⟩;have X:=G.blk F (fun e=>aZ (by cases e;rfl));have bj:=(t' X).trans h0;have bk:z.frozen? ⟨p,o,none⟩=false:=by simp[World.frozen?,X]
     have O:(List.map (fun x=>x.1) (List.drop k l)).length=l.length - k:=by simp
     have ba:=(as'.of_own M).shape;rw[O]at ba;obtain⟨bB,aQ,rfl,_⟩:=ba;replace O:=y' O;replace M:=y' M;replace V:=y' V;replace G:=y' G;go_wp2;go_ret;have aq:=i' ab;have bC:Far (fun b=>b=p\/ShU (.slice (some ⟨g,0,none⟩) l.length cap) mv b) w z:=((i' az).mono (fun _ _ h=> .inr (.inr h))).trans (i' G) (fun _ _ h=> .inr (.inl h));have aI:∀b,b≠p->(z.setCell ⟨p,o,none⟩ (.slice bB (l.length - k) aQ)).heap[b]? =z.heap[b]? :=fun b F=>aa' F;have bb:∀b,aT' mv=some b->b≠p/\z.heap[b]? =wr.heap[b]? :=fun b H=>by
      rcases i' ac with ⟨h,_⟩|⟨bU,h,aJ⟩
      ·rw[h]at H;cases H
      ·rw[h]at H;cases H;exact⟨fun e=>aJ.not_cells (by rw[e];exact F),(i' G).rest b aJ.lt (fun e=>(i' aj).notMap aJ e)⟩
     refine⟨_,rfl,dg' (i' ai) (fun g' r=>?_),⟨_,⟨ah' X,by simp[aK],by rw[Array.getElem?_setIfInBounds_ne (by omega)];exact h1,⟨(i' M).keep (fun g' r=>aI g' ?_),(i' ac).keep (fun b H=>(aI b (bb b H).1).trans (bb b H).2),by rw[List.map_drop];exact aq.sorted.drop,by rw[List.length_drop];omega⟩,ao⟩,i' V⟩,bC.trans (S' z p o _) (fun _ _ h=> .inl h)⟩
     ·have bD:=World.ownsRow.lt (i' ai) g' r;have aW:=lt_of_block Z;have aH:=lt_of_block aO;exact(aI g' (by omega)).trans ((i' G).rest g' bD.2 (fun e=>by have bV:g=g':=Option.some.inj e;omega))
     ·rw[i' V]at r;cases r;exact aZ
def du' (b:ByteArray):Value:= .agg #[.string b]
def sW':Value:= .agg #[.string ⟨#[]⟩]
theorem rD' (w:World):(zeroValue 224).run Tryz.prog w= .ok sW' w:=Tryz.zeroValue224 w
def hp' (l:List (Nat×Value)):Prop:=∀x∈l,∃b,x.2=du' b
theorem gt' {l:List (Nat×Value)} (h:hp' l) (k:Int):(∃b,ar' l k=some (du' b))\/ar' l k=none:=by
 cases r:ar' l k with
 |none=>exact .inr rfl
 |some v=>obtain⟨x,z,_,rfl⟩:=dm' r;obtain⟨b,e⟩:=h x z;exact .inl ⟨b,by rw[e]⟩
theorem lc' {w:World} {p o:Nat} {arr:Array Value} {t:TypeId} {nv mv:Value} {l:List (Nat×Value)} (r:w.heap[p]? =some (.cells arr t (0,0))) (h1:arr[o+1]? =some mv) (S:aM' w nv mv l) (A:hp' l) (n:Int):
  Calls Tryz.prog 137 #[.pointer (some ⟨p,o,none⟩), .int .i64 n] w fun e w'=>e= .returned (.bool (ar' l n).isSome)/\Below w.heap.size w w':=by
 have c1:w.cell? ⟨p,o+1,none⟩=some mv:=(t' r).trans h1;have z:=(bm' (P:=Tryz.prog) (w:=w) (t:=117) Tryz.underlying117 Tryz.underlying3 (rD' w) S.map n).1;clear S r h1;rcases gt' A n with ⟨b,h⟩|h;all_goals
  rw[h]at z ⊢;simp only[Option.getD_some,Option.getD_none,Option.isSome_some,Option.isSome_none,du',sW']at z ⊢;clear h A;go_enter Tryz.func137,Tryz.ntmps137;go_wp2;go_ret;refine⟨rfl,?_⟩;exact(Below.refl _ _).alloc (Nat.le_refl _) _
theorem vf' {w:World} {p o:Nat} {t:TypeId} {arr:Array Value} {nv mv:Value} {l:List (Nat×Value)} (S:eJ' w p o t arr nv mv l) (hl:l.length < 1000) (n:Nat) (b:ByteArray):
  Calls Tryz.prog 180 #[.pointer (some ⟨p,o,none⟩), .int .i64 n,du' b] w fun e w'=>e= .returned (.tuple #[])/\cd' w w' p o t arr nv mv (bb' l n (du' b)):=by
 obtain⟨U,h0,h1,S,V⟩:=S;obtain⟨aC,ab⟩:∃m,m=mv:=⟨_,rfl⟩;rw[<-ab];have ab:=y' ab;have c0:w.cell? ⟨p,o,none⟩=some nv:=(t' U).trans h0;have c1:w.cell? ⟨p,o+1,none⟩=some mv:=(t' U).trans h1;unfold du';have aD:=lt_of_block U;go_enter Tryz.func180,Tryz.ntmps180;go_upto_region 1 with fail;refine H' (fun x=>x.heap[p]? =some (.cells arr t (0,0))/\x.heap[w.heap.size]? =some (.cells #[.string b] 224 (0,0))/\aM' x nv mv l/\Far (fun _=>False) w x/\w.heap.size < x.heap.size) ?_ ?_
 ·have G:Far (fun _=>False) w (w.alloc (.cells #[.string b] 224)):=C' ((Below.refl _ _).alloc (Nat.le_refl _) _);exact⟨G.blk U id,heap_alloc_new w _,S.far G (fun _ _ h=>h),G,by simp⟩
 clear c0 c1 S;rintro x ⟨z,H,S,G,O⟩;have c0:x.cell? ⟨p,o,none⟩=some nv:=(t' z).trans h0;have c1:x.cell? ⟨p,o+1,none⟩=some mv:=(t' z).trans h1;have aE:x.frozen? ⟨p,o+1,none⟩=false:=by simp[World.frozen?,z]
 have aF:= @run_makeMap Tryz.prog;have aG:∀y:World,(binOp .eql 117 (.map none) (.map none)).run Tryz.prog y= .ok (.bool true) y:=fun y=>by kernel_rfl
 have aH:∀ (y:World) (m:Nat),(binOp .eql 117 (.map (some m)) (.map none)).run Tryz.prog y= .ok (.bool false) y:=fun y m=>by kernel_rfl
 have ac:(x.alloc (.map #[] 0)).heap[p]? =some (.cells arr t (0,0)):=(Below.heap_alloc x _ p (lt_of_block z)).trans z;have aI:(x.alloc (.map #[] 0)).cell? ⟨p,o+1,none⟩=some mv:=(t' ac).trans h1;have aJ:(x.alloc (.map #[] 0)).frozen? ⟨p,o+1,none⟩=false:=by simp[World.frozen?,ac]
 rcases S.map with ⟨rfl,ad⟩|⟨Q,rfl,ad⟩;all_goals
  go_upto_region 3 with fail
  refine H' (fun y=>∃Q,y.heap[p]? =some (.cells (arr.setIfInBounds (o+1) (.map (some Q))) t (0,0))/\y.heap[w.heap.size]? =some (.cells #[.string b] 224 (0,0))/\aI' y nv (l.map (·.1))/\aZ' y Q (ar' l)/\
   Far (fun k=>k=p) w y/\w.heap.size < y.heap.size/\(aT' aC=some Q\/w.heap.size<=Q)) ?_ ?_
 ·refine⟨x.heap.size,ah' ac,(aa' (by omega)).trans ((Below.heap_alloc x _ _ O).trans H),?_,?_,?_,?_, .inr (Nat.le_of_lt O)⟩
  ·exact S.nums.keep (fun g I=>(aa' (fun e=>S.ne z V (.inl (by rw[<-e];exact I)))).trans (Below.heap_alloc x _ g (World.ownsRow.lt S.nums g I).2))
  ·rw[ad];exact(gn' x).keep (aa' (by have:=lt_of_block z;omega))
  ·exact((G.mono (fun _ _ h=>h.elim)).trans (C' ((Below.refl _ x).alloc (Nat.le_refl _) _)) (fun _ _ h=>h)).trans (S' _ p (o+1) _) (fun _ _ h=>h)
  ·simp;omega
 rotate_left
 ·refine⟨Q,by rw[bi' h1];exact z,H,S.nums,ad,G.mono (fun _ _ h=>h.elim),O, .inl (by rw[i' ab];rfl)⟩
 all_goals
  have hs:=y' S.sorted;clear c0 c1 ac aI aJ aE H S ad z O aF aG aH G aD;rintro y ⟨D,z,H,N,F,ay,O,az⟩;have aA:o < arr.size:=(Array.getElem?_eq_some_iff.1 h0).1;have X:o+1 < arr.size:=(Array.getElem?_eq_some_iff.1 h1).1;have a0:(arr.setIfInBounds (o+1) (.map (some D)))[o]? =some nv:=by rw[Array.getElem?_setIfInBounds_ne (by omega)];exact h0
  have a1:(arr.setIfInBounds (o+1) (.map (some D)))[o+1]? =some (.map (some D)):=by simp[X]
  have c0:y.cell? ⟨p,o,none⟩=some nv:=(t' z).trans a0;have J:=gq' (v:=du' b) (n:=n) (i' hs);have M:=cC' N (i' hs) (by simp;omega) n;have ak:(l.map (·.1)).countP (· < n)<=(l.map (·.1)).length:=List.countP_le_length;have aK:(l.map (·.1)).length < 1000:=by simpa using hl
  generalize (l.map (·.1)).countP (· < n)=k at J M ak;generalize (l.map (·.1)).contains n=c at J M;generalize l.map (·.1)=ns at J M ak N aK;replace J:=y' J;replace M:=y' M;cases c
  ·go_upto_region 4 with (go_at_call 125;refine(i' M).mono ?_;rintro e aL ⟨rfl,q,rfl⟩)
   go_upto_region 6 with fail
   refine(fb' (w:=(y.drewN q).alloc (.cells #[.int .i64 n] 3)) (ns:=ns) (N.keep (fun g I=>Below.heap_alloc (y.drewN q) _ g (World.ownsRow.lt N g I).2)) (by omega) k n y.heap.size ak (heap_alloc_new (y.drewN q) _) (fun e=>by have:=(World.ownsRow.lt N _ e).2;omega)).mono ?_;rintro e r ⟨nv',rfl,ah,ai,aM⟩;have aj:=ai.blk ((Below.heap_alloc (y.drewN q) _ p (lt_of_block z)).trans z) (fun e=>(as'.of_own N).ne z (fun e=>V e.symm) e);have aN:=ai.blk ((Below.heap_alloc (y.drewN q) _ _ O).trans H) (fun e=>(as'.of_own N).ne H (by decide) e);have aT:=(t' aj).trans a0;have aU:r.frozen? ⟨p,o,none⟩=false:=by simp[World.frozen?,aj]
   obtain⟨aO,Y⟩:∃x,x=ns.take k++n::ns.drop k:=⟨_,rfl⟩;rw[<-Y]at ah;obtain⟨g',aP,rfl⟩:=gk' ah (by rw[Y];simp only[List.length_append,List.length_cons];omega);replace Y:=y' Y;go_upto_region 6 with fail;refine H' (fun r=>∃nv',r.heap[p]? =some (.cells ((arr.setIfInBounds o nv').setIfInBounds (o+1) (.map (some D))) t (0,0))/\r.heap[w.heap.size]? =some (.cells #[.string b] 224 (0,0))/\aI' r nv' ((bb' l n (du' b)).map (·.1))/\aZ' r D (ar' l)/\
    Far (fun k=>k=p\/nv.ownBlock=some k) w r/\Loc w nv nv') ?_ ?_
   ·have aQ:nv.ownBlock≠some D:=N.notMap F;have aR:∀g,(Value.slice (some ⟨g',0,none⟩) aO.length aP).ownBlock=some g->g≠p:=fun g I e=>(as'.of_own ah).ne aj (fun e=>V e.symm) (by rw[I,e]);have Z:=i' J;simp only[Bool.false_eq_true,if_false]at Z;have aB:Far (fun _=>False) y ((y.drewN q).alloc (.cells #[.int .i64 n] 3)):=(ao' (fun _=>False) y q).trans (C' ((Below.refl _ _).alloc (Nat.le_refl _) _)) (fun _ _ h=>h);have aS:Far (fun b=>b=p\/nv.ownBlock=some b) w r:=(ay.mono (fun _ _ h=> .inl h)).trans ((aB.mono (fun _ _ h=>h.elim)).trans ai (fun _ _ h=>h)) (fun _ _ h=> .inr h);refine⟨_,?_,(aa' (by have:=lt_of_block U;omega)).trans aN,?_,?_,aS.trans (S' r p o _) (fun _ _ h=> .inl h),bH' aM (by simp;omega)⟩
    ·rw[set_comm _ _ (show o≠o+1 by omega)];exact ah' aj
    ·rw[Z,<-i' Y];exact ah.keep (fun g I=>aa' (aR g I))
    ·exact F.keep ((aa' (fun e=>F.not_cells (by rw[e];exact z))).trans ((ai.rest _ (by have:=F.lt;simp;omega) aQ).trans (aB.rest _ F.lt id)))
   ·skip
    rintro r ⟨nv',z,H,ao,F,G,ap⟩;obtain⟨aa,aq,au⟩:=bG' (P:=Tryz.prog) (w:=r) (t:=117) Tryz.underlying117 Tryz.underlying3 F n (du' b);have av:=aq r.drew rfl;unfold du' at av;have c1:r.cell? ⟨p,o+1,none⟩=some (.map (some D)):=(t' z).trans (by simp[X]);have ax:=t' (i:=0) H;simp at ax;go_region;refine bodyPost_end (results_none rfl _ _ _) rfl ⟨rfl,?_⟩;exact ek' (v:=du' b) (W:={r.drew with heap:=r.drew.heap.setIfInBounds D aa}) aA X z V ao F G ap az au ((ao' _ r 1).trans (be' D aa) (fun _ _ h=>h)) (i' hs) hl
  ·go_upto_region 4 with (go_at_call 125;refine(i' M).mono ?_;rintro e aL ⟨rfl,q,rfl⟩)
   go_upto_region 6 with fail
   refine H' (fun r=>∃nv',r.heap[p]? =some (.cells ((arr.setIfInBounds o nv').setIfInBounds (o+1) (.map (some D))) t (0,0))/\r.heap[w.heap.size]? =some (.cells #[.string b] 224 (0,0))/\aI' r nv' ((bb' l n (du' b)).map (·.1))/\aZ' r D (ar' l)/\
    Far (fun k=>k=p\/nv.ownBlock=some k) w r/\Loc w nv nv') ?_ ?_
   ·have Z:=i' J;simp only[if_true]at Z;refine⟨nv,?_,H,by rw[Z];exact N,F,(ay.mono (fun _ _ h=> .inl h)).trans (ao' _ y q) (fun _ _ h=>h), .inr (.inl rfl)⟩;rw[bi' h0];exact z
   ·skip
    rintro r ⟨nv',z,H,ao,F,G,ap⟩;obtain⟨aa,aq,au⟩:=bG' (P:=Tryz.prog) (w:=r) (t:=117) Tryz.underlying117 Tryz.underlying3 F n (du' b);have av:=aq r.drew rfl;unfold du' at av;have c1:r.cell? ⟨p,o+1,none⟩=some (.map (some D)):=(t' z).trans (by simp[X]);have ax:=t' (i:=0) H;simp at ax;go_region;refine bodyPost_end (results_none rfl _ _ _) rfl ⟨rfl,?_⟩;exact ek' (v:=du' b) (W:={r.drew with heap:=r.drew.heap.setIfInBounds D aa}) aA X z V ao F G ap az au ((ao' _ r 1).trans (be' D aa) (fun _ _ h=>h)) (i' hs) hl
theorem rE' {w:World} {p o:Nat} {t:TypeId} {arr:Array Value} {nv mv:Value} {l:List (Nat×Value)} (S:eJ' w p o t arr nv mv l):
  Calls Tryz.prog 177 #[.pointer (some ⟨p,o,none⟩)] w fun e w'=>e= .returned (.tuple #[])/\cd' w w' p o t arr nv mv []:=by
 obtain⟨H,h0,h1,S,O⟩:=S;have X:o < arr.size:=(Array.getElem?_eq_some_iff.1 h0).1;have Y:o+1 < arr.size:=(Array.getElem?_eq_some_iff.1 h1).1;obtain⟨I,D⟩:∃m,m=mv:=⟨_,rfl⟩;rw[<-D];replace D:=y' D;have c1:w.cell? ⟨p,o+1,none⟩=some mv:=(t' H).trans h1;have ab:=S.nums.cases;have F:(mv= .map none/\∀ty,(Builtin.clear_ #[117] ty #[.map none]).run Tryz.prog w= .ok (.tuple #[]) w)\/
   ∃b o,mv= .map (some b)/\b≠p/\nv.ownBlock≠some b/\(∀ty,(Builtin.clear_ #[117] ty #[.map (some b)]).run Tryz.prog w= .ok (.tuple #[]) {w with heap:=w.heap.setIfInBounds b o})/\aZ' {w with heap:=w.heap.setIfInBounds b o} b (fun _=>none):=by
  rcases S.map with ⟨rfl,F⟩|⟨J,rfl,F⟩
  ·exact .inl ⟨rfl,fun ty=>fC' Tryz.underlying117⟩
  ·obtain⟨Q,ac,U⟩:=fB' (P:=Tryz.prog) (w:=w) (t:=117) Tryz.underlying117 F;exact .inr ⟨J,Q,rfl,fun e=>F.not_cells (by rw[e];exact H),S.nums.notMap F,fun ty=>ac ty w rfl,U⟩
 rcases F with ⟨rfl,ad⟩|⟨J,Q,rfl,ah,ai,ad,U⟩;all_goals
  go_enter Tryz.func177,Tryz.ntmps177;go_upto_region 1 with fail;refine H' (fun x=>x.heap[p]? =some (.cells arr t (0,0))/\aI' x nv (l.map (·.1))/\kn' x I (ar' [])/\Far (fun k=>k=p\/ShU nv I k) w x) ?_ ?_
 ·exact⟨H,S.nums,by rw[i' D];exact .inl ⟨rfl,dR'⟩,Far.refl _ _⟩
 rotate_left
 ·have G:=be' (w:=w) J Q;refine⟨G.blk H (fun e=>ah e.symm),S.nums.keep (fun g Z=>G.rest g (World.ownsRow.lt S.nums g Z).2 (fun e=>ai (by rw[Z,e]))),by rw[i' D];exact .inr ⟨J,rfl,by rw[dR'];exact U⟩,G.mono (fun k _ e=> .inr (.inr (by rw[i' D,e];rfl)))⟩
 all_goals
  clear S;rintro x ⟨r,N,M,G⟩;have c0:x.cell? ⟨p,o,none⟩=some nv:=(t' r).trans h0;have aq:x.frozen? ⟨p,o,none⟩=false:=by simp[World.frozen?,r]
  rcases ab with ⟨rfl,_⟩|⟨g,cap,au,rfl,av,ax,aj,ay,az⟩
  ·go_wp2;refine bodyPost_end (results_none rfl _ _ _) rfl ⟨rfl,?_⟩;refine⟨⟨_,I,⟨?_,?_,?_,⟨bR' _,M.keep (fun b z=>aa' (fun e=>?_)),by simp,by simp⟩,O⟩, .inr (.inl rfl), .inl rfl⟩,G.trans (S' x p o _) (fun _ _ h=> .inl h)⟩
   ·have:=ah' (j:=o) (v:= .slice none 0 0) r;rw[bi' (i:=o+1)]
    ·exact this
    ·rw[Array.getElem?_setIfInBounds_ne (by omega),h1,i' D]
   ·rw[Array.getElem?_setIfInBounds_ne (by omega)];simp[X]
   ·simp[Y]
   ·rcases M with ⟨h,_⟩|⟨ak,h,V⟩
    ·rw[h]at z;cases z
    ·rw[h]at z;cases z;exact V.not_cells (by rw[e];exact r)
  ·go_wp2;refine bodyPost_end (results_none rfl _ _ _) rfl ⟨rfl,?_⟩;rcases N.cases with ⟨h,_⟩|⟨g',aA,aB,h,aa,aC,aD,ao,aE⟩
   ·cases h
   ·injection h with h _ h3;injection h with h;injection h with h;subst h h3;have ap:g≠p:=fun e=>by subst e;rw[aa]at r;injection r with r;injection r with _ r _;exact O r.symm
    refine⟨⟨_,I,⟨?_,?_,?_,⟨go' (ns:=[]) ((aa' ap).trans aa) (Nat.zero_le _) aj ao rfl,M.keep (fun b z=>aa' (fun e=>?_)),by simp,by simp⟩,O⟩, .inr (.inl rfl), .inl rfl⟩,G.trans (S' x p o _) (fun _ _ h=> .inl h)⟩
    ·rw[bi' (i:=o+1)]
     ·exact ah' (j:=o) r
     ·rw[Array.getElem?_setIfInBounds_ne (by omega),h1,i' D]
    ·rw[Array.getElem?_setIfInBounds_ne (by omega)];simp[X]
    ·simp[Y]
    ·rcases M with ⟨h,_⟩|⟨ak,h,V⟩
     ·rw[h]at z;cases z
     ·rw[h]at z;cases z;exact V.not_cells (by rw[e];exact r)
def cc' (l:List (Nat×Value)) (q:Nat):Nat->Nat
 |0=>0
 |j+1=>cc' l q j+if(ar' l ((q+2+j:Nat):Int)).isSome=true then 2 ^ j else 0
theorem pE' (l:List (Nat×Value)) (q:Nat):∀j,cc' l q j < 2 ^ j
 |0=>by simp[cc']
 |j+1=>by
  have:=pE' l q j;unfold cc';split
  ·rw[Nat.pow_succ];omega
  ·rw[Nat.pow_succ];omega
theorem or0:bits BinOp.or IntKind.u8 0 1=1:=by decide+kernel
theorem or1:∀x:Fin 2,bits BinOp.or IntKind.u8 ((x.val:Nat):Int) 2=((x.val+2:Nat):Int):=by decide+kernel
theorem or2:∀x:Fin 4,bits BinOp.or IntKind.u8 ((x.val:Nat):Int) 4=((x.val+4:Nat):Int):=by decide+kernel
theorem pF' {w:World} {p o:Nat} {t:TypeId} {arr:Array Value} {nv mv:Value} {l:List (Nat×Value)} (S:eJ' w p o t arr nv mv l) (A:hp' l) (q:Nat) (ak:q<=1000000000):
  Calls Tryz.prog 136 #[.int .i64 q, .func (.func 137) #[.pointer (some ⟨p,o,none⟩)] #[]] w fun e w'=>e= .returned (.string ⟨#[UInt8.ofNat (cc' l q 3)]⟩)/\Below w.heap.size w w':=by
 have ah:=y' S;have ab:=fun k (ai:ShU nv mv k)=>S.sh.lt k ai;have aj:=lt_of_block S.blk;go_enter Tryz.func136,Tryz.ntmps136;go_wp2;go_loopw[5,6,7] (fun v5 _ i wr=>∃j:Nat,j<=3/\i= .int .i64 j/\v5= .int .u8 (cc' l q j:Nat)/\Below w.heap.size w wr) (fun _ _ i _=>3 - (intOf i).toNat)
 case atStart=>exact⟨0,by omega,rfl,rfl,Below.refl _ _⟩
 case round=>
  obtain⟨j,hj,rfl,rfl,M⟩:=hrel;have V:eJ' wr p o t arr nv mv l:=by have U:=i' ah;exact⟨(M.block p aj).trans U.blk,U.c0,U.c1,U.sh.keep (fun g X=>M.block g (ab g (.inl X))) (fun g X=>M.block g (ab g (.inr X))),U.ty⟩
  have Y:=fun k:Int=>y' (lc' V.blk V.c1 V.sh A k);have I:=y' M;have J:=M.size;clear M V;have O:=fun y=>di' q (by omega) y;have Z:=pE' l q j;rcases(show j=0\/j=1\/j=2\/j=3 by omega)with rfl|rfl|rfl|rfl
  ·have ac:IntKind.i64.wrap ((q:Int)+2+0)=(q:Int)+2+0:=by rw[IntKind.wrap_i64];omega
   have z:=Y ((q:Int)+2);have D:Hid (cc' l q (0+1)=cc' l q 0+if(ar' l ((q:Int)+2)).isSome=true then 2 ^ 0 else 0):=rfl;generalize Q:cc' l q 0=x at *;have ad:=or0;obtain rfl:x=0:=by omega
   cases H:(ar' l ((q:Int)+2)).isSome
   ·rw[H]at z D;go_upto_region 6 with (first|(go_at_call 168;refine(O _).mono ?_;rintro e y ⟨rfl,rfl⟩)|(go_at_call 137;refine(i' z).mono ?_;rintro e F ⟨rfl,r⟩;have G:=y' ((i' I).trans (r.mono J));clear r));exact⟨⟨0+1,by omega,by go_num,by rw[i' D];simp,i' G⟩,by simp[intOf]⟩
   ·rw[H]at z D;go_upto_region 6 with (first|(go_at_call 168;refine(O _).mono ?_;rintro e y ⟨rfl,rfl⟩)|(go_at_call 137;refine(i' z).mono ?_;rintro e F ⟨rfl,r⟩;have G:=y' ((i' I).trans (r.mono J));clear r));go_wp2;exact⟨⟨0+1,by omega,by go_num,by rw[i' D];simp,i' G⟩,by simp[intOf]⟩
  ·have ac:IntKind.i64.wrap ((q:Int)+2+1)=(q:Int)+2+1:=by rw[IntKind.wrap_i64];omega
   have z:=Y ((q:Int)+2+1);have D:Hid (cc' l q (1+1)=cc' l q 1+if(ar' l ((q:Int)+2+1)).isSome=true then 2 ^ 1 else 0):=rfl;generalize Q:cc' l q 1=x at *;have ad:=or1 ⟨x,Z⟩;replace Q:=y' Q;cases H:(ar' l ((q:Int)+2+1)).isSome
   ·rw[H]at z D;go_upto_region 6 with (first|(go_at_call 168;refine(O _).mono ?_;rintro e y ⟨rfl,rfl⟩)|(go_at_call 137;refine(i' z).mono ?_;rintro e F ⟨rfl,r⟩;have G:=y' ((i' I).trans (r.mono J));clear r));exact⟨⟨1+1,by omega,by go_num,by rw[i' D];simp,i' G⟩,by simp[intOf]⟩
   ·rw[H]at z D;go_upto_region 6 with (first|(go_at_call 168;refine(O _).mono ?_;rintro e y ⟨rfl,rfl⟩)|(go_at_call 137;refine(i' z).mono ?_;rintro e F ⟨rfl,r⟩;have G:=y' ((i' I).trans (r.mono J));clear r));go_wp2;exact⟨⟨1+1,by omega,by go_num,by rw[i' D];simp,i' G⟩,by simp[intOf]⟩
  ·have ac:IntKind.i64.wrap ((q:Int)+2+2)=(q:Int)+2+2:=by rw[IntKind.wrap_i64];omega
   have z:=Y ((q:Int)+2+2);have D:Hid (cc' l q (2+1)=cc' l q 2+if(ar' l ((q:Int)+2+2)).isSome=true then 2 ^ 2 else 0):=rfl;generalize Q:cc' l q 2=x at *;have ad:=or2 ⟨x,Z⟩;replace Q:=y' Q;cases H:(ar' l ((q:Int)+2+2)).isSome
   ·rw[H]at z D;go_upto_region 6 with (first|(go_at_call 168;refine(O _).mono ?_;rintro e y ⟨rfl,rfl⟩)|(go_at_call 137;refine(i' z).mono ?_;rintro e F ⟨rfl,r⟩;have G:=y' ((i' I).trans (r.mono J));clear r));exact⟨⟨2+1,by omega,by go_num,by rw[i' D];simp,i' G⟩,by simp[intOf]⟩
   ·rw[H]at z D;go_upto_region 6 with (first|(go_at_call 168;refine(O _).mono ?_;rintro e y ⟨rfl,rfl⟩)|(go_at_call 137;refine(i' z).mono ?_;rintro e F ⟨rfl,r⟩;have G:=y' ((i' I).trans (r.mono J));clear r));go_wp2;exact⟨⟨2+1,by omega,by go_num,by rw[i' D];simp,i' G⟩,by simp[intOf]⟩
  ·have ao:cc' l q 3 < 8:=Z;have ap:∀F:World,(convert 48 9 (.slice (some ⟨F.heap.size,0,none⟩) 1 1)).run Tryz.prog (F.alloc (.cells #[.int .u8 (cc' l q 3:Nat)] 5))= .ok (.string ⟨#[UInt8.ofNat (cc' l q 3)]⟩) (F.alloc (.cells #[.int .u8 (cc' l q 3:Nat)] 5)):=fun F=>
    fv' (l:=[UInt8.ofNat (cc' l q 3)]) (b:=F.heap.size) (off:=0) (n:=1) (cap:=1) rfl (fun i hi=>by
     obtain rfl:i=0:=by omega
     rw[t' (heap_alloc_new F _)];simp;omega)
   generalize aa:cc' l q 3=x at *;replace aa:=y' aa;go_wp2;go_ret;exact⟨(congrArg (fun x=>Ending.returned (Value.string ⟨#[UInt8.ofNat x]⟩)) (i' aa)).symm,((i' I).alloc J _)⟩
theorem kr' (a b c:Nat) (ai:a < 4294967296) (aj:b < 4294967296) (ak:c < 4294967296) (w:World):
  Calls Tryz.prog 134 #[.agg #[.int .i64 a, .int .i64 b, .int .i64 c]] w fun e w'=>e= .returned (.string ⟨(Wire.le4 a++Wire.le4 b++Wire.le4 c).toArray⟩)/\Below w.heap.size w w':=by
 have ao:∀y:World,(Instr.index 35 (.agg #[.int .i64 a, .int .i64 b, .int .i64 c]) (.int .i64 0)).run Tryz.prog y= .ok (.int .i64 a) y:=fun y=>by kernel_rfl
 have ap:∀y:World,(Instr.index 35 (.agg #[.int .i64 a, .int .i64 b, .int .i64 c]) (.int .i64 1)).run Tryz.prog y= .ok (.int .i64 b) y:=fun y=>by kernel_rfl
 have aq:∀y:World,(Instr.index 35 (.agg #[.int .i64 a, .int .i64 b, .int .i64 c]) (.int .i64 2)).run Tryz.prog y= .ok (.int .i64 c) y:=fun y=>by kernel_rfl
 have hl:∀n:Int,(Wire.le4 n).length=4:=fun n=>Wire.length_le4 n;go_enter Tryz.func134,Tryz.ntmps134;go_upto_region 2 with fail;refine H' (fun x=>x.cell? ⟨w.heap.size,0,none⟩=some (.int .i64 a)/\x.cell? ⟨w.heap.size,1,none⟩=some (.int .i64 b)/\x.cell? ⟨w.heap.size,2,none⟩=some (.int .i64 c)/\Below w.heap.size w x/\w.heap.size < x.heap.size) ?_ ?_
 ·have:=heap_alloc_new w (.cells #[.int .i64 a, .int .i64 b, .int .i64 c] 35);exact⟨t' this,t' this,t' this,(Below.refl _ _).alloc (Nat.le_refl _) _,by simp⟩
 rintro x ⟨c0,c1,c2,ad,ah⟩;go_wp2;go_loopw[3,5,7] (fun v _ i wr=>∃j:Nat,j<=3/\i= .int .i64 j/\ax' (w.heap.size+1) wr v ((Wire.le4 a++Wire.le4 b++Wire.le4 c).take (4 * j))/\Below w.heap.size w wr/\w.heap.size < wr.heap.size) (fun _ _ i _=>3 - (intOf i).toNat)
 case atStart=>exact⟨0,by omega,rfl,hJ' _ _,ad,ah⟩
 case round=>
  obtain⟨j,hj,rfl,X,Y,U⟩:=hrel;have D:=y' X;have O:=y' Y;clear X Y;rcases(show j=0\/j=1\/j=2\/j=3 by omega)with rfl|rfl|rfl|rfl
  ·have G:=y' (show(Wire.le4 a++Wire.le4 b++Wire.le4 c).take (4 * (0+1))=(Wire.le4 a++Wire.le4 b++Wire.le4 c).take (4 * 0)++Wire.le4 a by simp[Wire.le4]);go_upto_region 6 with (go_at_call 103;refine(aF' (w.heap.size+1) (a:Int) u3 _ wr (by simp only[List.length_take,List.length_append,hl];omega) (by omega) (by omega) (i' D)).mono ?_;rintro Z H ⟨aa,rfl,F,r⟩;have z:Below (w.heap.size+1) wr H:=ac' r (by omega) (fun g r=>((i' D).lt g r).1);have I:=y' F;have J:=y' ((i' O).trans (z.mono (by omega)));have M:=Nat.lt_of_lt_of_le U z.size;clear F r z);go_wp2;exact⟨⟨0+1,by omega,by go_num,by rw[i' G];exact i' I,i' J,M⟩,by simp[intOf]⟩
  ·have G:=y' (show(Wire.le4 a++Wire.le4 b++Wire.le4 c).take (4 * (1+1))=(Wire.le4 a++Wire.le4 b++Wire.le4 c).take (4 * 1)++Wire.le4 b by simp[Wire.le4]);go_upto_region 6 with (go_at_call 103;refine(aF' (w.heap.size+1) (b:Int) u3 _ wr (by simp only[List.length_take,List.length_append,hl];omega) (by omega) (by omega) (i' D)).mono ?_;rintro Z H ⟨aa,rfl,F,r⟩;have z:Below (w.heap.size+1) wr H:=ac' r (by omega) (fun g r=>((i' D).lt g r).1);have I:=y' F;have J:=y' ((i' O).trans (z.mono (by omega)));have M:=Nat.lt_of_lt_of_le U z.size;clear F r z);go_wp2;exact⟨⟨1+1,by omega,by go_num,by rw[i' G];exact i' I,i' J,M⟩,by simp[intOf]⟩
  ·have G:=y' (show(Wire.le4 a++Wire.le4 b++Wire.le4 c).take (4 * (2+1))=(Wire.le4 a++Wire.le4 b++Wire.le4 c).take (4 * 2)++Wire.le4 c by simp[Wire.le4]);go_upto_region 6 with (go_at_call 103;refine(aF' (w.heap.size+1) (c:Int) u3 _ wr (by simp only[List.length_take,List.length_append,hl];omega) (by omega) (by omega) (i' D)).mono ?_;rintro Z H ⟨aa,rfl,F,r⟩;have z:Below (w.heap.size+1) wr H:=ac' r (by omega) (fun g r=>((i' D).lt g r).1);have I:=y' F;have J:=y' ((i' O).trans (z.mono (by omega)));have M:=Nat.lt_of_lt_of_le U z.size;clear F r z);go_wp2;exact⟨⟨2+1,by omega,by go_num,by rw[i' G];exact i' I,i' J,M⟩,by simp[intOf]⟩
  ·have Q:(Wire.le4 a++Wire.le4 b++Wire.le4 c).length=12:=by simp[hl]
   rw[List.take_of_length_le (by rw[Q];omega)]at D;have ab:=(i' D).addr (by rw[Q];omega);rw[Q]at ab;obtain⟨g,cap,rfl,au,av,ax,ay,ac⟩:=ab;have az:=fv' (w:=wr) (b:=g) (off:=0) (cap:=cap) Q ac;generalize V:Wire.le4 a++Wire.le4 b++Wire.le4 c=fr at *;replace V:=y' V;clear ac D;go_wp2;go_ret;exact⟨(congrArg (fun x:List UInt8=>Ending.returned (Value.string ⟨x.toArray⟩)) (i' V)).symm,i' O⟩
structure fP' (w:World) (p:Nat) (e:Nat) (logs:Nat->List ByteArray) (sh:Nat->List (Nat×Value)) (arr:Array Value) (s:Nat) (lv nv mv:Nat->Value) (rv:Value):Prop where
 blk:w.heap[p]? =some (.cells arr 125 (0,0))
 sz:arr.size=12
 a0:arr[0]? =some (A' s)
 a1:arr[1]? =some (.int .i64 e)
 al:∀i,i < 3->arr[2+i * 3]? =some (lv i)
 an:∀i,i < 3->arr[2+i * 3+1]? =some (nv i)
 am:∀i,i < 3->arr[2+i * 3+2]? =some (mv i)
 ar:arr[11]? =some rv
 lgs:∀i,i < 3->as' w 9 1 (lv i) (logs i).length (aV' (logs i))
 shs:∀i,i < 3->aM' w (nv i) (mv i) (sh i)
 are:∀i,i < 3->hp' (sh i)
 apl:∀i j,i < 3->j < 3->i≠j->∀g,(lv i).ownBlock=some g->(lv j).ownBlock≠some g
 aps:∀i j,i < 3->j < 3->i≠j->∀k,ShU (nv i) (mv i) k->¬ShU (nv j) (mv j) k
 cnt:(logs 0).length+(logs 1).length+(logs 2).length<=120
 ep:e<=2147483647
def KsU (p:Nat) (lv nv mv:Nat->Value) (k:Nat):Prop:=k=p\/(∃i,i < 3/\(lv i).ownBlock=some k)\/∃i,i < 3/\ShU (nv i) (mv i) k
section
variable {w x:World} {p e s:Nat} {logs:Nat->List ByteArray} {sh:Nat->List (Nat×Value)} {arr:Array Value} {lv nv mv:Nat->Value} {rv:Value}
theorem fP'.far {E:Nat->Prop} (h:fP' w p e logs sh arr s lv nv mv rv) (r:Far E w x) (z:∀k,KsU p lv nv mv k->¬E k):fP' x p e logs sh arr s lv nv mv rv:=
 ⟨r.blk h.blk (z p (.inl rfl)),h.sz,h.a0,h.a1,h.al,h.an,h.am,h.ar,fun i hi=>(h.lgs i hi).far r (fun g D=>z g (.inr (.inl ⟨i,hi,D⟩))),fun i hi=>(h.shs i hi).far r (fun k F=>z k (.inr (.inr ⟨i,hi,F⟩))),h.are,h.apl,h.aps,h.cnt,h.ep⟩
theorem fP'.lt (h:fP' w p e logs sh arr s lv nv mv rv):∀k,KsU p lv nv mv k->k < w.heap.size:=by
 rintro k (rfl|⟨i,hi,r⟩|⟨i,hi,r⟩)
 ·exact lt_of_block h.blk
 ·exact(h.lgs i hi).lt k r
 ·exact(h.shs i hi).lt k r
theorem fP'.logc (h:fP' w p e logs sh arr s lv nv mv rv) {i:Nat} (hi:i < 3):∃r cap,lv i= .slice r (logs i).length cap/\w.cell? ⟨p,2+i * 3,none⟩=some (.slice r (logs i).length cap):=by
 obtain⟨r,cap,e,_⟩:=(h.lgs i hi).shape;exact⟨r,cap,e,by rw[t' h.blk,h.al i hi,e]⟩
theorem fP'.loglen (h:fP' w p e logs sh arr s lv nv mv rv) {i:Nat} (hi:i < 3):(logs i).length<=120:=by
 have:=h.cnt;obtain rfl|rfl|rfl:i=0\/i=1\/i=2:=by omega
 all_goals omega
end
theorem bJ' (w:World) (p o n cap:Nat) (r:Option Addr) (D:w.cell? ⟨p,o,none⟩=some (.slice r n cap)):
  Calls Tryz.prog 133 #[.pointer (some ⟨p,o,none⟩)] w fun z w'=>z= .returned (.int .i64 n)/\w'=w:=by
 go_enter Tryz.func133,Tryz.ntmps133;go_wp2;go_ret;exact⟨rfl,rfl⟩
theorem dE' (w:World) (p o n cap:Nat) (r:Option Addr) (z:w.cell? ⟨p,o,none⟩=some (.slice r n cap)) (G:n<=1000):
  Calls Tryz.prog 130 #[.pointer (some ⟨p,o,none⟩)] w fun D w'=>D= .returned (.int .i64 (n+1:Nat))/\w'=w:=by
 have F:=y' (bJ' w p o n cap r z);have H:IntKind.i64.wrap ((n:Int)+1)=(n:Int)+1:=by rw[IntKind.wrap_i64];omega
 clear z;go_enter Tryz.func130,Tryz.ntmps130;go_wp2_with (go_at_call 133;refine(i' F).mono ?_;rintro D y ⟨rfl,rfl⟩);go_ret;exact⟨by simp,rfl⟩
theorem eA' {w:World} {p e s:Nat} {logs:Nat->List ByteArray} {sh:Nat->List (Nat×Value)} {arr:Array Value} {lv nv mv:Nat->Value} {rv:Value} (D:fP' w p e logs sh arr s lv nv mv rv):
  Calls Tryz.prog 129 #[A' p] w fun F w'=>F= .returned (.int .i64 ((logs 0).length+(logs 1).length+(logs 2).length:Nat))/\w'=w:=by
 obtain⟨a0,k0,_,c0⟩:=D.logc (i:=0) (by omega);obtain⟨a1,k1,_,c1⟩:=D.logc (i:=1) (by omega);obtain⟨I,k2,_,c2⟩:=D.logc (i:=2) (by omega);have Q:=D.cnt;have J:=y' (bJ' w p 2 _ k0 a0 c0);have M:=y' (bJ' w p 5 _ k1 a1 c1);have O:=y' (bJ' w p 8 _ k2 I c2);generalize (logs 0).length=r at *;generalize (logs 1).length=z at *;generalize (logs 2).length=G at *;clear D c0 c1 c2;unfold A';go_enter Tryz.func129,Tryz.ntmps129;go_wp2;go_loopw[3,4,5] (fun v _ i wr=>∃j:Nat,j<=3/\i= .int .i64 j/\v= .int .i64 (if j=0 then 0 else if j=1 then r else if j=2 then r+z else r+z+G:Nat)/\wr=w) (fun _ _ i _=>3 - (intOf i).toNat)
 case atStart=>exact⟨0,by omega,rfl,rfl,rfl⟩
 case round=>
  obtain⟨j,hj,rfl,rfl,rfl⟩:=hrel;rcases(show j=0\/j=1\/j=2\/j=3 by omega)with rfl|rfl|rfl|rfl
  ·have H:IntKind.i64.wrap (r:Int)=(r:Int):=by rw[IntKind.wrap_i64];omega
   go_wp2_with (go_at_call 133;refine(i' J).mono ?_;rintro F y ⟨rfl,rfl⟩)
   exact⟨⟨1,by omega,by go_num,by simp,by first|rfl|trivial⟩,by simp[intOf]⟩
  ·have H:IntKind.i64.wrap ((r:Int)+(z:Int))=(r:Int)+(z:Int):=by rw[IntKind.wrap_i64];omega
   go_wp2_with (go_at_call 133;refine(i' M).mono ?_;rintro F y ⟨rfl,rfl⟩)
   exact⟨⟨2,by omega,by go_num,by simp,by first|rfl|trivial⟩,by simp[intOf]⟩
  ·have H:IntKind.i64.wrap ((r:Int)+(z:Int)+(G:Int))=(r:Int)+(z:Int)+(G:Int):=by rw[IntKind.wrap_i64];omega
   go_wp2_with (go_at_call 133;refine(i' O).mono ?_;rintro F y ⟨rfl,rfl⟩)
   exact⟨⟨3,by omega,by go_num,by simp,by first|rfl|trivial⟩,by simp[intOf]⟩
  ·go_wp2;go_ret;exact⟨by simp,rfl⟩
theorem jS' {w:World} {p e s:Nat} {logs:Nat->List ByteArray} {sh:Nat->List (Nat×Value)} {arr:Array Value} {lv nv mv:Nat->Value} {rv:Value} (r:fP' w p e logs sh arr s lv nv mv rv):
  Calls Tryz.prog 178 #[A' p] w fun z w'=>z= .returned (.bool (decide ((logs 0).length+(logs 1).length+(logs 2).length < 120)))/\w'=w:=by
 have D:=y' (eA' r);have G:=r.cnt;generalize (logs 0).length+(logs 1).length+(logs 2).length=n at *;clear r;unfold A' at *;by_cases h:n < 120
 ·rw[decide_eq_true h];have F:(n:Int) < 120:=by omega
  go_enter Tryz.func178,Tryz.ntmps178;go_wp2_with (go_at_call 129;refine(i' D).mono ?_;rintro z y ⟨rfl,rfl⟩);go_ret;exact⟨by simp,rfl⟩
 ·rw[decide_eq_false h];have F:¬ (n:Int) < 120:=by omega
  go_enter Tryz.func178,Tryz.ntmps178;go_wp2_with (go_at_call 129;refine(i' D).mono ?_;rintro z y ⟨rfl,rfl⟩);go_ret;exact⟨by simp;omega,rfl⟩
end Go.Proofs.YtamafdcnbcoegabGreat
