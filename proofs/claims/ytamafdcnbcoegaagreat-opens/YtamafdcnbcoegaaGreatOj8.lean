/- Part 8. -/
import Derived.Test.YtamafdcnbcoegaaGreatOj7
set_option maxRecDepth 100000
set_option maxHeartbeats 40000000
namespace Go.Proofs.YtamafdcnbcoegaaGreat
attribute [local simp, local go_sem] Ev Ep Ei Eb Et
abbrev uR':= @Go.World.putObj_heap_other
abbrev wH':= @List.take_append_drop
abbrev zH':= @List.Perm.append_right
abbrev zI':= @Go.World.putObj_size
open Go.RowKit Go.Proofs.Tryz
structure qy' (D:Nat) (W W':World):Prop where
 os:W'.os=W.os
 tape:W'.tape=W.tape
 output:W'.output=W.output
 size:W'.heap.size=W.heap.size
 rest:∀k,k≠D->k≠D+1->W'.heap[k]? =W.heap[k]?
theorem iQ' (D:Nat) (W:World) (o:Obj):qy' D W (W.putObj (D+1) o):=
 ⟨rfl,rfl,rfl,zI',fun _ _ h=>uR' h⟩
theorem sN' (D:Nat) (W:World) (n:Nat):qy' D W (W.drewN n):=⟨rfl,rfl,rfl,rfl,fun _ _ _=>rfl⟩
def wI' (D:Nat) (F:World->Prop) (W:World):Exit->Act->World->Prop
 | .normal,_,z=>z.heap[D]? =W.heap[D]? /\z.heap[D+1]? =W.heap[D+1]? /\F z
 | _,_,_=>False
theorem jH' {g:Operand} {Q:Array Tmp} {assign body:Code} {ac:Exit->Act->World->Prop} {a:Act} {w:World} (n b p o m:Nat) (nv mv:Value) (l:List (Nat×Value)) (A:ou' l)
  (ao:a.eval g=tN' b) (ap:Q.size=2) (F:Nat->World->Prop) (Y:∀i W V,F i W->qy' w.heap.size W V->F i V) (aq:∀i W,F i W->oC' W b p o m nv mv l)
  (h0:∀W,Below w.heap.size w W->W.heap.size=w.heap.size+2->F 0 W)
  (au:∀i (hi:i < l.length) W,i < m->F i W->w.heap.size+2<=W.heap.size->
   assign.wpIn (Fence.wide.inRound (w.heap.size+1)) (n - 1 - 1) prog (Exit.then (fun ad G=>(G.heap[w.heap.size]? =W.heap[w.heap.size]? /\G.heap[w.heap.size+1]? =W.heap[w.heap.size+1]?)/\
     ∀Z,qy' w.heap.size G Z->body.wpIn (Fence.wide.inRound (w.heap.size+1)) (n - 1 - 1) prog (wI' w.heap.size (F (i+1)) Z) ad Z) (fun _ _ _=>False))
    {tmps:=(Q.zip #[.int .i64 (l[i].1:Nat),l[i].2]).foldl (fun t (p,v)=>t.setIfInBounds p v) a.tmps,defers:=[]} W)
  (av:∀i W,F i W->w.heap.size+2<=W.heap.size)
  (ax:∀W,F (min m l.length) W->W.heap[w.heap.size]? =some (.deferred (some []))->ac .normal {a with defers:={target:= .collected w.heap.size,args:= #[]}::a.defers} W):
  (Code.rangeFunc g Q assign body).wpIn Fence.wide n prog ac a w:=by
 refine wpIn_rangeFunc ?_;intro fn ay;obtain⟨I,H⟩:=exq (fun st=>{state:=st,pending:=none,fn,tmps:=a.tmps,params:=Q,assign,body,defers:=w.heap.size}:LoopState->Loop);obtain⟨z,O⟩:∃z,(w.alloc (.deferred (some []))).alloc (.loop (I .ready))=z:=⟨_,rfl⟩;have az:z.heap[w.heap.size+1]? =some (.loop (I .ready)):=by rw[<-O];have:=World.alloc_heap_new (w.alloc (.deferred (some []))) (.loop (I .ready));rwa [zh']at this
 have aA:z.heap[w.heap.size]? =some (.deferred (some [])):=by rw[<-O];exact(z25 _ _ _ (by simp)).trans (World.alloc_heap_new w _)
 have aB:Below w.heap.size w z:=by rw[<-O];exact((z11 _ w).alloc (z13 _) _).alloc (by simp) _
 have aC:z.heap.size=w.heap.size+2:=by rw[<-O];simp
 have aD:∀args w,(callFunc 189 args).run prog w= .ok (.enter 189 args) w:=enters_of func189 (by kernel_rfl) rfl;refine⟨w.heap.size+1,[{target:= .collected w.heap.size,args:= #[]}],z,{target:= .fn (.func 189) #[.pointer (some ⟨b,0,none⟩), .pointer (some ⟨b+1,0,none⟩)],args:= #[.func (.yield (w.heap.size+1)) #[] #[]]},z,189,
  #[.func (.yield (w.heap.size+1)) #[] #[], .pointer (some ⟨b,0,none⟩), .pointer (some ⟨b+1,0,none⟩)],z,?_,?_,?_,?_,fun h=>by simp[Fence.wide]at h,?_⟩
 ·rw[<-O,H];exact run_enterLoop_outer _ _ _ _ _
 ·simp only[resolve,ao];simp[go_sem,tN']
 ·intro aK _;trivial
 ·simp[invoke,go_sem,aD]
 ·refine(wG' (n - 1) (w.heap.size+1) b p o m nv mv l A
   (fun i W=>F i W/\W.heap[w.heap.size+1]? =some (.loop (I .ready))/\W.heap[w.heap.size]? =some (.deferred (some []))) (fun _=>False)
   (fun i W h=>aq i W h.1) (fun i W k h=>⟨Y i W _ h.1 (sN' _ W k),h.2.1,h.2.2⟩) ?_ z ⟨h0 z aB aC,az,aA⟩).mono ?_
  ·rintro i W hi aE ⟨ah,hl,hk⟩;have aL:w.heap.size+1 < W.heap.size:=(z21.1 hl).1;have ai:=run_yield (P:=prog) (args:= #[.int .i64 (l[i].1:Nat),l[i].2]) hl (by rw[H];simpa using ap.symm);rw[H]at ai;refine⟨fn,_,assign,body,ai,roundIn_of_wpIn ay (wpIn_mono (au i hi W aE ah (av i W ah)) ?_)⟩;rintro e ad G J;cases e with
   |normal=>
    obtain⟨⟨aF,aa⟩,aG⟩:=J;have aj:G.heap[w.heap.size+1]? =some (.loop (I .ready)):=aa.trans hl;have aH:G.heap[w.heap.size]? =some (.deferred (some [])):=aF.trans hk;have aI:w.heap.size+1 < G.heap.size:=(z21.1 aj).1;refine⟨_,run_beginRound aj (by rw[H]),wpIn_mono (aG _ (iQ' _ G _)) ?_⟩;rintro aa aM ab M;cases aa with
    |normal=>
     obtain⟨f1,f2,f3⟩:=M;have ak:ab.heap[w.heap.size+1]? =some (.loop {I .ready with state:= .busy}):=f2.trans (World.putObj_heap_same aI);have aJ:ab.heap[w.heap.size]? =some (.deferred (some [])):=(f1.trans (uR' (by omega))).trans aH;refine⟨_,_,run_endRound none ak, .inl ⟨rfl,Y _ _ _ f3 (iQ' _ ab _),?_,?_⟩⟩
     ·rw[World.putObj_heap_same (z21.1 ak).1,H];rfl
     ·exact(uR' (by omega)).trans aJ
    |ret=>exact M.elim
    |exit id=>exact M.elim
    |goto t=>exact M.elim
    |panic c=>exact M.elim
    |outgrown=>exact M.elim
   |ret=>exact J.elim
   |exit id=>exact J.elim
   |goto t=>exact J.elim
   |panic c=>exact J.elim
   |outgrown=>exact J.elim
  ·rintro e V ⟨⟨v,rfl⟩,⟨hi,hl,hk⟩|h⟩
   ·have:=run_endLoop (P:=prog) hl (by rw[H];simp);rw[H]at this;exact⟨none,_,this,ax _ (Y _ _ _ hi (iQ' _ V _)) ((uR' (by omega)).trans hk)⟩
   ·exact h.elim
def dJ':Value:= .agg #[]
def yS':Value:= .agg #[]
theorem zJ' (w:World):(zeroValue 225).run prog w= .ok yS' w:=zeroValue225 w
def oD' (l:List (Nat×Value)):Prop:=∀x∈l,x.2=dJ'
variable{d:List (Nat×Value)}
theorem uS' (h:oD' d) (k:Int):(al' d k=some (dJ'))\/al' d k=none:=by
 cases z:al' d k with
 |none=>exact .inr rfl
 |some v=>obtain⟨x,F,_,rfl⟩:=dE' z;have e:=h x F;exact .inl (by rw[e])
variable{p:World}{w a:Nat}{l:Array Value}{j:TypeId}{c f:Value}
theorem wJ' (hb:p.heap[w]? =some (.cells l j (0,0))) (h1:l[a+1]? =some f) (S:Jb p c f d) (A:oD' d) (n:Int):
  Calls prog 190 #[.pointer (some ⟨w,a,none⟩), .int .i64 n] p fun e w'=>e= .returned (.bool (al' d n).isSome)/\Below p.heap.size p w':=by
 have c1:p.cell? ⟨w,a+1,none⟩=some f:=(y' hb).trans h1;have z:=(bw' (P:=prog) (w:=p) (t:=143) underlying143 underlying3 (zJ' p) S.map n).1;clear S hb h1;rcases uS' A n with ⟨h⟩|h;all_goals
  rw[h]at z ⊢;simp only[Option.getD_some,Option.getD_none,Option.isSome_some,Option.isSome_none,dJ',yS']at z ⊢;clear h A;go_enter func190,ntmps190;go_wp2;go_ret;refine⟨rfl,?_⟩;exact(z11 _ _).alloc (z13 _) _
theorem wK' (S:eR' p w a j l c f d) (hl:d.length < 1000) (n:Nat):
  Calls prog 156 #[.pointer (some ⟨w,a,none⟩), .int .i64 n,dJ'] p fun e w'=>e= .returned (.tuple #[])/\cq' p w' w a j l c f (br' d n (dJ')):=by
 obtain⟨V,h0,h1,S,aa⟩:=S;obtain⟨av,ab⟩:=exq (f);rw[<-ab];have ab:=m' ab;have c0:p.cell? ⟨w,a,none⟩=some c:=(y' V).trans h0;have c1:p.cell? ⟨w,a+1,none⟩=some f:=(y' V).trans h1;unfold dJ';have ax:=z14 V;go_enter func156,ntmps156;go_upto_region 1 with fail;refine G' (fun x=>x.heap[w]? =some (.cells l j (0,0))/\x.heap[p.heap.size]? =some (.cells #[] 225 (0,0))/\Jb x c f d/\Far (fun _=>False) p x/\p.heap.size < x.heap.size) ?_ ?_
 ·have F:Far (fun _=>False) p (p.alloc (.cells #[] 225)):=C' ((z11 _ _).alloc (z13 _) _);exact⟨F.blk V id,z19 p _,S.far F (fun _ _ h=>h),F,by simp⟩
 clear c0 c1 S;rintro x ⟨hb,I,S,F,O⟩;have c0:x.cell? ⟨w,a,none⟩=some c:=(y' hb).trans h0;have c1:x.cell? ⟨w,a+1,none⟩=some f:=(y' hb).trans h1;have ay:x.frozen? ⟨w,a+1,none⟩=false:=by simp[World.frozen?,hb]
 have az:= @run_makeMap prog;have aA:∀y:World,(binOp .eql 143 (.map none) (.map none)).run prog y= .ok (.bool true) y:=fun y=>by kernel_rfl
 have aB:∀ (y:World) (m:Nat),(binOp .eql 143 (.map (some m)) (.map none)).run prog y= .ok (.bool false) y:=fun y m=>by kernel_rfl
 have ac:(x.alloc (.map #[] 0)).heap[w]? =some (.cells l j (0,0)):=(z25 x _ w (z14 hb)).trans hb;have aC:(x.alloc (.map #[] 0)).cell? ⟨w,a+1,none⟩=some f:=(y' ac).trans h1;have aD:(x.alloc (.map #[] 0)).frozen? ⟨w,a+1,none⟩=false:=by simp[World.frozen?,ac]
 rcases S.map with ⟨rfl,ad⟩|⟨Q,rfl,ad⟩;all_goals
  go_upto_region 3 with fail
  refine G' (fun y=>∃Q,y.heap[w]? =some (.cells (l.setIfInBounds (a+1) (.map (some Q))) j (0,0))/\y.heap[p.heap.size]? =some (.cells #[] 225 (0,0))/\Jc y c (d.map (·.1))/\Xd y Q (al' d)/\
   Far (fun k=>k=w) p y/\p.heap.size < y.heap.size/\(be' av=some Q\/p.heap.size<=Q)) ?_ ?_
 ·refine⟨x.heap.size,aa' ac,(P' (by omega)).trans ((z25 x _ _ O).trans I),?_,?_,?_,?_, .inr (qg' O)⟩
  ·exact S.nums.keep (fun g J=>(P' (fun e=>S.ne hb aa (.inl (by rw[<-e];exact J)))).trans (z25 x _ g (z15 S.nums g J).2))
  ·rw[ad];exact(gi' x).keep (P' (by have:=z14 hb;omega))
  ·exact((F.mono (fun _ _ h=>h.elim)).trans (C' ((z11 _ x).alloc (z13 _) _)) (fun _ _ h=>h)).trans (Q' _ w (a+1) _) (fun _ _ h=>h)
  ·simp;omega
 rotate_left
 ·refine⟨Q,by rw[bs' h1];exact hb,I,S.nums,ad,F.mono (fun _ _ h=>h.elim),O, .inl (by rw[d' ab];rfl)⟩
 all_goals
  have hs:=m' S.sorted;clear c0 c1 ac aC aD ay I S ad hb O az aA aB F ax;rintro y ⟨G,hb,I,N,H,ap,O,aE⟩;have aF:a < l.size:=(z21.1 h0).1;have ak:a+1 < l.size:=(z21.1 h1).1;have a0:(l.setIfInBounds (a+1) (.map (some G)))[a]? =some c:=by rw[z16 (by omega)];exact h0
  have a1:(l.setIfInBounds (a+1) (.map (some G)))[a+1]? =some (.map (some G)):=by simp[ak]
  have c0:y.cell? ⟨w,a,none⟩=some c:=(y' hb).trans a0;have hk:=gl' (v:=dJ') (n:=n) (d' hs);have M:=cM' N (d' hs) (by simp;omega) n;have ao:(d.map (·.1)).countP (· < n)<=(d.map (·.1)).length:=z89;have aG:(d.map (·.1)).length < 1000:=by simpa using hl
  generalize (d.map (·.1)).countP (· < n)=k at hk M ao;generalize (d.map (·.1)).contains n=aH at hk M;generalize d.map (·.1)=ns at hk M ao N aG;replace hk:=m' hk;replace M:=m' M;cases aH
  case' false=>
   go_upto_region 4 with (go_at_call 132;refine(d' M).mono ?_;rintro e aI ⟨rfl,q,rfl⟩)
   go_upto_region 6 with fail
   refine(fe' (w:=(y.drewN q).alloc (.cells #[.int .i64 n] 3)) (ns:=ns) (N.keep (fun g J=>z25 (y.drewN q) _ g (z15 N g J).2)) (by omega) k n y.heap.size ao (z19 (y.drewN q) _) (fun e=>by have:=(z15 N _ e).2;omega)).mono ?_;rintro e z ⟨nv',rfl,ah,ai,aJ⟩;have aj:=ai.blk ((z25 (y.drewN q) _ w (z14 hb)).trans hb) (fun e=>(Qi.Qv N).ne hb (fun e=>aa e.symm) e);have aK:=ai.blk ((z25 (y.drewN q) _ _ O).trans I) (fun e=>(Qi.Qv N).ne I (by decide) e);have aV:=(y' aj).trans a0;have aW:z.frozen? ⟨w,a,none⟩=false:=(by simp[World.frozen?,aj]);obtain⟨aL,Y⟩:=exq (ns.take k++n::ns.drop k);rw[<-Y]at ah;obtain⟨g',aM,rfl⟩:=aJ' ah (by rw[Y];simp only[List.length_append,List.length_cons];omega);replace Y:=m' Y;go_upto_region 6 with fail
  case' true=>
   go_upto_region 4 with (go_at_call 132;refine(d' M).mono ?_;rintro e aI ⟨rfl,q,rfl⟩)
   go_upto_region 6 with fail
  all_goals
   refine G' (fun z=>∃nv',z.heap[w]? =some (.cells ((l.setIfInBounds a nv').setIfInBounds (a+1) (.map (some G))) j (0,0))/\z.heap[p.heap.size]? =some (.cells #[] 225 (0,0))/\Jc z nv' ((br' d n (dJ')).map (·.1))/\Xd z G (al' d)/\
    Far (fun k=>k=w\/c.ownBlock=some k) p z/\Loc p c nv') ?_ ?_
  ·have Z:=d' hk;simp only[if_true]at Z;refine⟨c,?_,I,by rw[Z];exact N,H,(ap.mono (fun _ _ h=> .inl h)).trans (aw' _ y q) (fun _ _ h=>h), .inr (.inl rfl)⟩;rw[bs' h0];exact hb
  rotate_left
  ·have aN:c.ownBlock≠some G:=N.Vd H;have aO:∀g,(Value.slice (some ⟨g',0,none⟩) aL.length aM).ownBlock=some g->g≠w:=fun g J e=>(Qi.Qv ah).ne aj (fun e=>aa e.symm) (by rw[J,e]);have Z:=d' hk;simp only[Bool.false_eq_true,if_false]at Z;have aq:Far (fun _=>False) y ((y.drewN q).alloc (.cells #[.int .i64 n] 3)):=(aw' (fun _=>False) y q).trans (C' ((z11 _ _).alloc (z13 _) _)) (fun _ _ h=>h);have aP:Far (fun b=>b=w\/c.ownBlock=some b) p z:=(ap.mono (fun _ _ h=> .inl h)).trans ((aq.mono (fun _ _ h=>h.elim)).trans ai (fun _ _ h=>h)) (fun _ _ h=> .inr h);refine⟨_,?_,(P' (by have:=z14 V;omega)).trans aK,?_,?_,aP.trans (Q' z w a _) (fun _ _ h=> .inl h),bT' aJ (by simp;omega)⟩
   ·rw[set_comm _ _ (show a≠a+1 by omega)];exact aa' aj
   ·rw[Z,<-d' Y];exact ah.keep (fun g J=>P' (aO g J))
   ·exact H.keep ((P' (fun e=>H.Qy (by rw[e];exact hb))).trans ((ai.rest _ (by have:=H.lt;simp;omega) aN).trans (aq.rest _ H.lt id)))
  all_goals
   rintro z ⟨nv',hb,I,aQ,H,F,aR⟩;obtain⟨au,aS,aT⟩:=dQ' (P:=prog) (w:=z) (t:=143) underlying143 underlying3 H n (dJ');have aU:=aS z.drew rfl;unfold dJ' at aU;have c1:z.cell? ⟨w,a+1,none⟩=some (.map (some G)):=(y' hb).trans (by simp[ak]);go_region;refine z77 (z65 rfl _ _ _) rfl ⟨rfl,?_⟩;exact kg' (v:=dJ') (W:={z.drew with heap:=z.drew.heap.setIfInBounds G au}) aF ak hb aa aQ H F aR aE aT ((aw' _ z 1).trans (ci' G au) (fun _ _ h=>h)) (d' hs) hl
theorem lj' (S:eR' p w a j l c f d):
  Calls prog 154 #[.pointer (some ⟨w,a,none⟩)] p fun e w'=>e= .returned (.tuple #[])/\cq' p w' w a j l c f []:=by
 obtain⟨I,h0,h1,S,Q⟩:=S;have aa:a < l.size:=(z21.1 h0).1;have ab:a+1 < l.size:=(z21.1 h1).1;obtain⟨J,F⟩:=exq (f);rw[<-F];replace F:=m' F;have c1:p.cell? ⟨w,a+1,none⟩=some f:=(y' I).trans h1;have ah:=S.nums.cases;have G:(f= .map none/\∀ty,(Builtin.clear_ #[143] ty #[.map none]).run prog p= .ok (.tuple #[]) p)\/
   ∃b a,f= .map (some b)/\b≠w/\c.ownBlock≠some b/\(∀ty,(Builtin.clear_ #[143] ty #[.map (some b)]).run prog p= .ok (.tuple #[]) {p with heap:=p.heap.setIfInBounds b a})/\Xd {p with heap:=p.heap.setIfInBounds b a} b (fun _=>none):=by
  rcases S.map with ⟨rfl,G⟩|⟨M,rfl,G⟩
  ·exact .inl ⟨rfl,fun ty=>fM' underlying143⟩
  ·obtain⟨V,ai,Y⟩:=fL' (P:=prog) (w:=p) (t:=143) underlying143 G;exact .inr ⟨M,V,rfl,fun e=>G.Qy (by rw[e];exact I),S.nums.Vd G,fun ty=>ai ty p rfl,Y⟩
 rcases G with ⟨rfl,aj⟩|⟨M,V,rfl,ak,ao,aj,Y⟩;all_goals
  go_enter func154,ntmps154;go_upto_region 1 with fail;refine G' (fun x=>x.heap[w]? =some (.cells l j (0,0))/\Jc x c (d.map (·.1))/\jU' x J (al' [])/\Far (fun k=>k=w\/ShU c J k) p x) ?_ ?_
 ·exact⟨I,S.nums,by rw[d' F];exact .inl ⟨rfl,ek'⟩,Far.refl _ _⟩
 rotate_left
 ·have H:=ci' (w:=p) M V;refine⟨H.blk I (fun e=>ak e.symm),S.nums.keep (fun g ac=>H.rest g (z15 S.nums g ac).2 (fun e=>ao (by rw[ac,e]))),by rw[d' F];exact .inr ⟨M,rfl,by rw[ek'];exact Y⟩,H.mono (fun k _ e=> .inr (.inr (by rw[d' F,e];rfl)))⟩
 all_goals
  clear S;rintro x ⟨hb,N,O,H⟩;have c0:x.cell? ⟨w,a,none⟩=some c:=(y' hb).trans h0;have f0:x.frozen? ⟨w,a,none⟩=false:=by simp[World.frozen?,hb]
  rcases ah with ⟨rfl,_⟩|⟨g,cap,ax,rfl,ay,hn,ap,az,aA⟩
  ·go_wp2;refine z77 (z65 rfl _ _ _) rfl ⟨rfl,?_⟩;refine⟨⟨_,J,⟨?_,?_,?_,⟨cb' _,O.keep (fun b z=>P' (fun e=>?_)),by simp,by simp⟩,Q⟩, .inr (.inl rfl), .inl rfl⟩,H.trans (Q' x w a _) (fun _ _ h=> .inl h)⟩
   ·have:=aa' (j:=a) (v:= .slice none 0 0) hb;rw[bs' (i:=a+1)]
    ·exact this
    ·rw[z16 (by omega),h1,d' F]
   ·rw[z16 (by omega)];simp[aa]
   ·simp[ab]
   ·rcases O with ⟨h,_⟩|⟨aq,h,Z⟩
    ·rw[h]at z;cases z
    ·rw[h]at z;cases z;exact Z.Qy (by rw[e];exact hb)
  ·go_wp2;refine z77 (z65 rfl _ _ _) rfl ⟨rfl,?_⟩;rcases N.cases with ⟨h,_⟩|⟨g',aB,aC,h,ad,aD,aE,au,aF⟩
   ·cases h
   ·injection h with h _ h3;injection h with h;injection h with h;subst h h3;have av:g≠w:=fun e=>by subst e;rw[ad]at hb;injection hb with hb;injection hb with _ hb _;exact Q hb.symm
    refine⟨⟨_,J,⟨?_,?_,?_,⟨gj' (ns:=[]) ((P' av).trans ad) (z54 _) ap au rfl,O.keep (fun b z=>P' (fun e=>?_)),by simp,by simp⟩,Q⟩, .inr (.inl rfl), .inl rfl⟩,H.trans (Q' x w a _) (fun _ _ h=> .inl h)⟩
    ·rw[bs' (i:=a+1)]
     ·exact aa' (j:=a) hb
     ·rw[z16 (by omega),h1,d' F]
    ·rw[z16 (by omega)];simp[aa]
    ·simp[ab]
    ·rcases O with ⟨h,_⟩|⟨aq,h,Z⟩
     ·rw[h]at z;cases z
     ·rw[h]at z;cases z;exact Z.Qy (by rw[e];exact hb)
def eT' (m:Nat):Value:= .int .i64 m
def tO':Value:= .int .i64 0
theorem wL' (w:World):(zeroValue 3).run prog w= .ok tO' w:=zeroValue3 w
def lk' (l:List (Nat×Value)):Prop:=∀x∈l,∃m,x.2=eT' m
theorem uT' (h:lk' d) (k:Int):(∃m,al' d k=some (eT' m))\/al' d k=none:=by
 cases z:al' d k with
 |none=>exact .inr rfl
 |some v=>obtain⟨x,F,_,rfl⟩:=dE' z;obtain⟨m,e⟩:=h x F;exact .inl ⟨m,by rw[e]⟩
theorem wM' (S:eR' p w a j l c f d) (hl:d.length < 1000) (n:Nat) (m:Nat):
  Calls prog 139 #[.pointer (some ⟨w,a,none⟩), .int .i64 n,eT' m] p fun e w'=>e= .returned (.tuple #[])/\cq' p w' w a j l c f (br' d n (eT' m)):=by
 obtain⟨V,h0,h1,S,Y⟩:=S;obtain⟨au,Z⟩:=exq (f);rw[<-Z];have Z:=m' Z;have c0:p.cell? ⟨w,a,none⟩=some c:=(y' V).trans h0;have c1:p.cell? ⟨w,a+1,none⟩=some f:=(y' V).trans h1;unfold eT';have av:=z14 V;go_enter func139,ntmps139;refine G' (fun x=>x.heap[w]? =some (.cells l j (0,0))/\Jb x c f d/\Far (fun _=>False) p x/\p.heap.size<=x.heap.size) ?_ ?_
 ·exact⟨V,S,Far.refl _ p,z13 _⟩
 clear c0 c1 S;rintro x ⟨hb,S,M,aa⟩;have c0:x.cell? ⟨w,a,none⟩=some c:=(y' hb).trans h0;have c1:x.cell? ⟨w,a+1,none⟩=some f:=(y' hb).trans h1;have ax:x.frozen? ⟨w,a+1,none⟩=false:=by simp[World.frozen?,hb]
 have ay:= @run_makeMap prog;have az:∀y:World,(binOp .eql 140 (.map none) (.map none)).run prog y= .ok (.bool true) y:=fun y=>by kernel_rfl
 have aA:∀ (y:World) (m:Nat),(binOp .eql 140 (.map (some m)) (.map none)).run prog y= .ok (.bool false) y:=fun y m=>by kernel_rfl
 have ab:(x.alloc (.map #[] 0)).heap[w]? =some (.cells l j (0,0)):=(z25 x _ w (z14 hb)).trans hb;have aB:(x.alloc (.map #[] 0)).cell? ⟨w,a+1,none⟩=some f:=(y' ab).trans h1;have aC:(x.alloc (.map #[] 0)).frozen? ⟨w,a+1,none⟩=false:=by simp[World.frozen?,ab]
 rcases S.map with ⟨rfl,ac⟩|⟨J,rfl,ac⟩;all_goals
  go_upto_region 2 with fail
  refine G' (fun y=>∃J,y.heap[w]? =some (.cells (l.setIfInBounds (a+1) (.map (some J))) j (0,0))/\Jc y c (d.map (·.1))/\Xd y J (al' d)/\
   Far (fun k=>k=w) p y/\p.heap.size<=y.heap.size/\(be' au=some J\/p.heap.size<=J)) ?_ ?_
 ·refine⟨x.heap.size,aa' ab,?_,?_,?_,?_, .inr aa⟩
  ·exact S.nums.keep (fun g H=>(P' (fun e=>S.ne hb Y (.inl (by rw[<-e];exact H)))).trans (z25 x _ g (z15 S.nums g H).2))
  ·rw[ac];exact(gi' x).keep (P' (by have:=z14 hb;omega))
  ·exact((M.mono (fun _ _ h=>h.elim)).trans (C' ((z11 _ x).alloc (z13 _) _)) (fun _ _ h=>h)).trans (Q' _ w (a+1) _) (fun _ _ h=>h)
  ·simp;omega
 rotate_left
 ·refine⟨J,by rw[bs' h1];exact hb,S.nums,ac,M.mono (fun _ _ h=>h.elim),aa, .inl (by rw[d' Z];rfl)⟩
 all_goals
  have hs:=m' S.sorted;clear c0 c1 ab aB aC ax S ac hb aa ay az aA M av;rintro y ⟨F,hb,N,G,ao,aa,aD⟩;have aE:a < l.size:=(z21.1 h0).1;have ai:a+1 < l.size:=(z21.1 h1).1;have a0:(l.setIfInBounds (a+1) (.map (some F)))[a]? =some c:=by rw[z16 (by omega)];exact h0
  have a1:(l.setIfInBounds (a+1) (.map (some F)))[a+1]? =some (.map (some F)):=by simp[ai]
  have c0:y.cell? ⟨w,a,none⟩=some c:=(y' hb).trans a0;have hk:=gl' (v:=eT' m) (n:=n) (d' hs);have I:=cM' N (d' hs) (by simp;omega) n;have aj:(d.map (·.1)).countP (· < n)<=(d.map (·.1)).length:=z89;have aF:(d.map (·.1)).length < 1000:=by simpa using hl
  generalize (d.map (·.1)).countP (· < n)=k at hk I aj;generalize (d.map (·.1)).contains n=aG at hk I;generalize d.map (·.1)=ns at hk I aj N aF;replace hk:=m' hk;replace I:=m' I;cases aG
  case' false=>
   go_upto_region 3 with (go_at_call 132;refine(d' I).mono ?_;rintro e aH ⟨rfl,q,rfl⟩)
   go_upto_region 5 with fail
   refine(fe' (w:=(y.drewN q).alloc (.cells #[.int .i64 n] 3)) (ns:=ns) (N.keep (fun g H=>z25 (y.drewN q) _ g (z15 N g H).2)) (by omega) k n y.heap.size aj (z19 (y.drewN q) _) (fun e=>by have:=(z15 N _ e).2;omega)).mono ?_;rintro e z ⟨nv',rfl,ad,ak,aI⟩;have ah:=ak.blk ((z25 (y.drewN q) _ w (z14 hb)).trans hb) (fun e=>(Qi.Qv N).ne hb (fun e=>Y e.symm) e);have aT:=(y' ah).trans a0;have aU:z.frozen? ⟨w,a,none⟩=false:=(by simp[World.frozen?,ah]);obtain⟨aJ,O⟩:=exq (ns.take k++n::ns.drop k);rw[<-O]at ad;obtain⟨g',aK,rfl⟩:=aJ' ad (by rw[O];simp only[List.length_append,List.length_cons];omega);replace O:=m' O;go_upto_region 5 with fail
  case' true=>
   go_upto_region 3 with (go_at_call 132;refine(d' I).mono ?_;rintro e aH ⟨rfl,q,rfl⟩)
   go_upto_region 5 with fail
  all_goals
   refine G' (fun z=>∃nv',z.heap[w]? =some (.cells ((l.setIfInBounds a nv').setIfInBounds (a+1) (.map (some F))) j (0,0))/\Jc z nv' ((br' d n (eT' m)).map (·.1))/\Xd z F (al' d)/\
    Far (fun k=>k=w\/c.ownBlock=some k) p z/\Loc p c nv') ?_ ?_
  ·have Q:=d' hk;simp only[if_true]at Q;refine⟨c,?_,by rw[Q];exact N,G,(ao.mono (fun _ _ h=> .inl h)).trans (aw' _ y q) (fun _ _ h=>h), .inr (.inl rfl)⟩;rw[bs' h0];exact hb
  rotate_left
  ·have aL:c.ownBlock≠some F:=N.Vd G;have aM:∀g,(Value.slice (some ⟨g',0,none⟩) aJ.length aK).ownBlock=some g->g≠w:=fun g H e=>(Qi.Qv ad).ne ah (fun e=>Y e.symm) (by rw[H,e]);have Q:=d' hk;simp only[Bool.false_eq_true,if_false]at Q;have ap:Far (fun _=>False) y ((y.drewN q).alloc (.cells #[.int .i64 n] 3)):=(aw' (fun _=>False) y q).trans (C' ((z11 _ _).alloc (z13 _) _)) (fun _ _ h=>h);have aN:Far (fun b=>b=w\/c.ownBlock=some b) p z:=(ao.mono (fun _ _ h=> .inl h)).trans ((ap.mono (fun _ _ h=>h.elim)).trans ak (fun _ _ h=>h)) (fun _ _ h=> .inr h);refine⟨_,?_,?_,?_,aN.trans (Q' z w a _) (fun _ _ h=> .inl h),bT' aI (by simp;omega)⟩
   ·rw[set_comm _ _ (show a≠a+1 by omega)];exact aa' ah
   ·rw[Q,<-d' O];exact ad.keep (fun g H=>P' (aM g H))
   ·exact G.keep ((P' (fun e=>G.Qy (by rw[e];exact hb))).trans ((ak.rest _ (by have:=G.lt;simp;omega) aL).trans (ap.rest _ G.lt id)))
  all_goals
   rintro z ⟨nv',hb,aO,G,M,aP⟩;obtain⟨aq,aQ,aR⟩:=dQ' (P:=prog) (w:=z) (t:=140) underlying140 underlying3 G n (eT' m);have aS:=aQ z rfl;unfold eT' at aS;have c1:z.cell? ⟨w,a+1,none⟩=some (.map (some F)):=(y' hb).trans (by simp[ai]);go_wp2;refine z77 (z65 rfl _ _ _) rfl ⟨rfl,?_⟩;exact kg' (v:=eT' m) (W:={z with heap:=z.heap.setIfInBounds F aq}) aE ai hb Y aO G M aP aD aR (ci' F aq) (d' hs) hl
theorem sO' (S:eR' p w a j l c f d):
  Calls prog 153 #[.pointer (some ⟨w,a,none⟩)] p fun e w'=>e= .returned (.tuple #[])/\cq' p w' w a j l c f []:=by
 obtain⟨I,h0,h1,S,Q⟩:=S;have aa:a < l.size:=(z21.1 h0).1;have ab:a+1 < l.size:=(z21.1 h1).1;obtain⟨J,F⟩:=exq (f);rw[<-F];replace F:=m' F;have c1:p.cell? ⟨w,a+1,none⟩=some f:=(y' I).trans h1;have ah:=S.nums.cases;have G:(f= .map none/\∀ty,(Builtin.clear_ #[140] ty #[.map none]).run prog p= .ok (.tuple #[]) p)\/
   ∃b a,f= .map (some b)/\b≠w/\c.ownBlock≠some b/\(∀ty,(Builtin.clear_ #[140] ty #[.map (some b)]).run prog p= .ok (.tuple #[]) {p with heap:=p.heap.setIfInBounds b a})/\Xd {p with heap:=p.heap.setIfInBounds b a} b (fun _=>none):=by
  rcases S.map with ⟨rfl,G⟩|⟨M,rfl,G⟩
  ·exact .inl ⟨rfl,fun ty=>fM' underlying140⟩
  ·obtain⟨V,ai,Y⟩:=fL' (P:=prog) (w:=p) (t:=140) underlying140 G;exact .inr ⟨M,V,rfl,fun e=>G.Qy (by rw[e];exact I),S.nums.Vd G,fun ty=>ai ty p rfl,Y⟩
 rcases G with ⟨rfl,aj⟩|⟨M,V,rfl,ak,ao,aj,Y⟩;all_goals
  go_enter func153,ntmps153;go_upto_region 1 with fail;refine G' (fun x=>x.heap[w]? =some (.cells l j (0,0))/\Jc x c (d.map (·.1))/\jU' x J (al' [])/\Far (fun k=>k=w\/ShU c J k) p x) ?_ ?_
 ·exact⟨I,S.nums,by rw[d' F];exact .inl ⟨rfl,ek'⟩,Far.refl _ _⟩
 rotate_left
 ·have H:=ci' (w:=p) M V;refine⟨H.blk I (fun e=>ak e.symm),S.nums.keep (fun g ac=>H.rest g (z15 S.nums g ac).2 (fun e=>ao (by rw[ac,e]))),by rw[d' F];exact .inr ⟨M,rfl,by rw[ek'];exact Y⟩,H.mono (fun k _ e=> .inr (.inr (by rw[d' F,e];rfl)))⟩
 all_goals
  clear S;rintro x ⟨hb,N,O,H⟩;have c0:x.cell? ⟨w,a,none⟩=some c:=(y' hb).trans h0;have f0:x.frozen? ⟨w,a,none⟩=false:=by simp[World.frozen?,hb]
  rcases ah with ⟨rfl,_⟩|⟨g,cap,ax,rfl,ay,hn,ap,az,aA⟩
  ·go_wp2;refine z77 (z65 rfl _ _ _) rfl ⟨rfl,?_⟩;refine⟨⟨_,J,⟨?_,?_,?_,⟨cb' _,O.keep (fun b z=>P' (fun e=>?_)),by simp,by simp⟩,Q⟩, .inr (.inl rfl), .inl rfl⟩,H.trans (Q' x w a _) (fun _ _ h=> .inl h)⟩
   ·have:=aa' (j:=a) (v:= .slice none 0 0) hb;rw[bs' (i:=a+1)]
    ·exact this
    ·rw[z16 (by omega),h1,d' F]
   ·rw[z16 (by omega)];simp[aa]
   ·simp[ab]
   ·rcases O with ⟨h,_⟩|⟨aq,h,Z⟩
    ·rw[h]at z;cases z
    ·rw[h]at z;cases z;exact Z.Qy (by rw[e];exact hb)
  ·go_wp2;refine z77 (z65 rfl _ _ _) rfl ⟨rfl,?_⟩;rcases N.cases with ⟨h,_⟩|⟨g',aB,aC,h,ad,aD,aE,au,aF⟩
   ·cases h
   ·injection h with h _ h3;injection h with h;injection h with h;subst h h3;have av:g≠w:=fun e=>by subst e;rw[ad]at hb;injection hb with hb;injection hb with _ hb _;exact Q hb.symm
    refine⟨⟨_,J,⟨?_,?_,?_,⟨gj' (ns:=[]) ((P' av).trans ad) (z54 _) ap au rfl,O.keep (fun b z=>P' (fun e=>?_)),by simp,by simp⟩,Q⟩, .inr (.inl rfl), .inl rfl⟩,H.trans (Q' x w a _) (fun _ _ h=> .inl h)⟩
    ·rw[bs' (i:=a+1)]
     ·exact aa' (j:=a) hb
     ·rw[z16 (by omega),h1,d' F]
    ·rw[z16 (by omega)];simp[aa]
    ·simp[ab]
    ·rcases O with ⟨h,_⟩|⟨aq,h,Z⟩
     ·rw[h]at z;cases z
     ·rw[h]at z;cases z;exact Z.Qy (by rw[e];exact hb)
theorem wN' (hb:p.heap[w]? =some (.cells l j (0,0))) (h1:l[a+1]? =some f) (S:Jb p c f d) (A:lk' d) (n:Int):
  Calls prog 191 #[.pointer (some ⟨w,a,none⟩), .int .i64 n] p fun e w'=>e= .returned (.tuple #[(al' d n).getD tO', .bool (al' d n).isSome])/\w'=p:=by
 have c1:p.cell? ⟨w,a+1,none⟩=some f:=(y' hb).trans h1;have z:=(bw' (P:=prog) (w:=p) (t:=140) underlying140 underlying3 (wL' p) S.map n).1;clear S hb h1;rcases uT' A n with ⟨m,h⟩|h;all_goals
  rw[h]at z ⊢;simp only[Option.getD_some,Option.getD_none,Option.isSome_some,Option.isSome_none,eT',tO']at z ⊢;clear h A;go_enter func191,ntmps191;go_wp2;go_ret2;exact⟨rfl,rfl⟩
theorem zK':(prog.info? 3).map (fun i=>(i.zero,i.size,i.bytes))=some (some (.int .i64 0),1,8):=by kernel_rfl
theorem mJ' (S:eR' p w a j l c f d) (A:lk' d) (n:Nat):
  Calls prog 201 #[.pointer (some ⟨w,a,none⟩), .int .i64 n] p fun e w'=>∃v,e= .returned v/\
   w'.ownsRow p.heap.size 3 1 v (bA' d n) (eS' (d.take (bA' d n)))/\Vr p w' w a j l c f (d.drop (bA' d n)):=by
 obtain⟨ab,h0,h1,S,aq⟩:=S;have aN:a < l.size:=(z21.1 h0).1;have bF:a+1 < l.size:=(z21.1 h1).1;have c0:p.cell? ⟨w,a,none⟩=some c:=(y' ab).trans h0;have bG:=S.len;have ac:=cM' S.nums S.sorted (by simp;omega) n;have hcut:=wx' (n:=n) S.sorted;have aO:=wy' d n;have aP:(d.map (·.1)).countP (· < n)<=d.length:=by have:=z89 (p:=(· < n)) (l:=d.map (·.1));simpa using this
 obtain⟨i0,hi,bf,bg,bh⟩:=au' zK';generalize bA' d n=V at *;generalize (d.map (·.1)).countP (· < n)=k0 at *;generalize (d.map (·.1)).contains n=aD at *;have G:(d.map (·.1)).length=d.length:=z43 _;have ad:=m' S;have bH:=m' G;replace ac:=m' ac;rcases S.nums.cases with ⟨au,aQ⟩|⟨g,cap,bI,au,aR,hn,aS,bJ,bi⟩
 ·subst au;obtain rfl:d=[]:=by simpa using aQ
  obtain rfl:V=0:=by simpa using aO
  obtain rfl:k0=0:=by simpa using aP
  have aS:aD=false:=by cases aD <;> simp_all
  subst aS;have M:=fun y:World=>ej' (cb' y) 0 0 (by omega) (by simp);simp only[show((0:Nat):Int)=0 from rfl,List.take_nil,List.drop_nil,List.nil_append]at M;have bj:=fun y=>m' (M y);clear S G M hcut aP aO aQ;simp only[show((0:Nat):Int)=0 from rfl]at ac;go_enter func201,ntmps201;go_upto_region 5 with (go_at_call 132;refine(d' ac).mono ?_;rintro e y ⟨rfl,q,rfl⟩);go_wp2;go_loopw[5,9,29] (fun v5 _ i wr=>v5= .slice none 0 0/\i= .int .i64 0/\wr=p.drewN q) (fun _ _ i _=>0)
  case atStart=>exact⟨rfl,rfl,rfl⟩
  case round=>
   obtain⟨rfl,rfl,rfl⟩:=hrel;go_upto_region 12 with fail;refine(d' (bj _)).mono ?_;rintro e F ⟨nv',rfl,O,H,Y⟩;obtain rfl:nv'= .slice none 0 0:=by
    rcases O.cases with ⟨h,_⟩|⟨g',aT,bK,rfl,_⟩
    ·exact h
    ·cases Y
   have ai:Far (fun _=>False) p F:=(aw' (fun _=>False) p q).trans (H.mono (fun _ _ h=>by cases h)) (fun _ _ h=>h);have Z:=ai.blk ab id;have bk:=(y' Z).trans h0;have bl:F.frozen? ⟨w,a,none⟩=false:=(by simp[World.frozen?,Z]);replace O:=m' O;replace ai:=m' ai;clear H Y;go_wp2;go_ret;have av:=d' ad;have bL:F.setCell ⟨w,a,none⟩ (.slice none 0 0)=F.setCell ⟨w,a,none⟩ (.slice none 0 0):=rfl;refine⟨_,rfl,z27 _ _ _ _,⟨_,⟨aa' Z,by simp[aN],by rw[z16 (by omega)];exact h1,⟨cb' _,(av.far (d' ai) (fun _ _ h=>h)).map.keep (fun b I=>P' (fun e=>?_)),by simp,by simp⟩,aq⟩,rfl⟩,((d' ai).mono (fun _ _ h=>h.elim)).trans (Q' F w a _) (fun _ _ h=> .inl h)⟩;exact av.ne ab aq (.inr (by rw[I,e]))
 ·rw[G]at au hn;subst au;have bM:=m' S.nums;cases aD;all_goals
   simp only[if_true,if_false,Bool.false_eq_true,Nat.add_zero]at hcut;clear S bi G;try (rw[hcut]at ac)
   have bm:((k0:Int)+1=(V:Int))=((k0:Int)+1=(V:Int)):=rfl;try (have bm:(k0:Int)+1=V:=by omega)
   replace hcut:=m' hcut;go_enter func201,ntmps201;go_upto_region 5 with (go_at_call 132;refine(d' ac).mono ?_;rintro e y ⟨rfl,q,rfl⟩)
  all_goals
   go_wp2;go_loopw[5,9,29] (fun v5 _ i wr=>∃k:Nat,k<=V/\i= .int .i64 k/\wr.ownsRow p.heap.size 3 1 v5 k (eS' (d.take k))/\wr.heap[w]? =some (.cells l j (0,0))/\Jc wr (.slice (some ⟨g,0,none⟩) d.length cap) (d.map (·.1))/\jU' wr f (al' (d.drop k))/\Far (fun b=>be' f=some b) p wr) (fun _ _ i _=>d.length - (intOf i).toNat)
   case atStart=>exact⟨0,by omega,rfl,z27 _ _ _ _,ab,(d' ad).nums,by rw[List.drop_zero];exact(d' ad).map,aw' _ p q⟩
   case round=>
    obtain⟨k,hk,rfl,ax,hb,N,aE,ay⟩:=hrel;by_cases bN:k < V
    ·have G:k < d.length:=(by omega);obtain⟨m,az⟩:=A d[k] (z81 G);have aA:d.drop k=d[k]::d.drop (k+1):=xX' G;have Q:al' (d.drop k) (d[k].1:Int)=some d[k].2:=(by rw[aA,cj',if_pos rfl]);have aU:=(d' ad).sorted;have aV:∀y∈d.drop (k+1),d[k].1 < y.1:=fun y bn=>(by have h1:((d.drop k).map (·.1)).Pairwise (· < ·):=(by rw[uB'];exact aU.drop);rw[aA,z48,z60]at h1;exact h1.1 y.1 (z63.2 ⟨y,bn,rfl⟩));have aF:=lc' aV;rw[<-aA]at aF;have aG:eS' (d.take (k+1))=eS' (d.take k)++fR' d[k].2:=(by rw[<-nr',sC',z18 G];rfl);have c0:=(y' hb).trans h0;have c1:=(y' hb).trans h1;have bO:wr.cell? ⟨g,k,none⟩=some (.int .i64 (d[k].1:Int)):=(by rw[N.cell' (by simpa using G)];simp[List.getD_eq_getElem?_getD,G]);rcases aE with ⟨rfl,aj⟩|⟨J,rfl,aj⟩
     ·rw[aj]at Q;cases Q
     have aW:=(bw' (P:=prog) (w:=wr) (t:=140) underlying140 underlying3 (wL' wr) (.inr ⟨J,rfl,aj⟩) (d[k].1:Int)).2;rw[Q,az]at aW;rw[az]at aG;simp only[Option.getD_some,eT']at aW;have bo:=m' aG;have bp:=m' aF;have ak:=m' ax;have ao:=m' N;have ah:=m' aj;have aB:=m' ay;have bP:=m' az;clear ax N aj ay aG aF Q az aA aV aU;generalize aX:d[k].1=bq at *;replace aX:=m' aX;have aY:=(d' aB).size;have br:J < p.heap.size:=(d' ad).map.lt J rfl;have aZ:=z14 ab;have bt:=fun g' (z:u5.ownBlock=some g')=>z15 (d' ak) g' z;go_upto_region 9 with (at_builtin;refine z62 _ rfl (.tmp 33) (.tmp 40) 26 rfl p.heap.size 3 i0 (.int .i64 0) 1 8 underlying26 hi bf bg bh rfl (by decide) u5 k (eS' (d.take k)) rfl ((d' ak).alloc _) ⟨wr.heap.size,0,none⟩ 1 1 (fR' (eT' m)) rfl rfl aq' (by intro u hu;simp[fR',eT']at hu;first|(rcases hu with rfl|rfl <;> rfl)|(subst hu;rfl)) (by unfold maxLen;omega) (by omega) (by simp;omega) ?_;intro v' w1 ap ba _;have aa:Below p.heap.size wr w1:=((z11 _ wr).alloc aY _).trans (Y' (B:=p.heap.size) ba (by simp;omega) (fun g' z=>(bt g' z).1));obtain⟨aH,bb,aI⟩:=fc' (P:=prog) (w:=w1) (t:=140) (K':=3) underlying140 underlying3 ((d' ah).keep (aa.block J br)) bq;have bQ:=fun ty=>bb ty w1 rfl;have aJ:=(aa.block w aZ).trans hb;have bR:=(y' aJ).trans h1;replace ap:=m' ap;replace aI:=m' aI;replace aa:=m' aa;clear ba bb);go_wp2;have bu:w≠J:=fun e=>(d' ah).Qy (by rw[<-e];exact hb);have bw:=(d' ao).Vd (d' ah);have bS:=(z15 (d' ao) g rfl).2;have aK:g < p.heap.size:=z14 aR;have aC:=ci' (w:=w1) J aH;have bz:=(d' ao).keep (w':={w1 with heap:=w1.heap.setIfInBounds J aH}) (fun g' z=>by cases z;exact(aC.rest g (z20 aK (z26 aY (d' aa).size)) (fun e=>bw (by rw[e];rfl))).trans ((d' aa).block g aK));have bA:=dz' (w':={w1 with heap:=w1.heap.setIfInBounds J aH}) (d' ap) (fun g' z=>aC.rest g' (z15 (d' ap) g' z).2 (fun e=>by have:=(z15 (d' ap) g' z).1;omega));refine⟨⟨k+1,by omega,by go_num,by rw[d' bo];exact bA,(aC.rest w (z14 aJ) bu).trans aJ,bz, .inr ⟨J,rfl,by rw[<-d' bp];exact d' aI⟩,
      ((d' aB).behind (d' aa)).trans aC (fun _ _ h=>by rw[h];rfl)⟩,by simp[intOf];omega⟩
    ·obtain rfl:k=V:=(by omega);have ak:=m' ax;have ao:=m' N;have ah:=m' aE;have aB:=m' ay;have bB:(d.map (·.1)).length=d.length:=z43 _;have bc:g≠w:=fun e=>(Qi.Qv N).ne hb (fun e=>aq e.symm) (by rw[<-e];rfl);have c0:=(y' hb).trans h0;have M:=ej' N 0 k (by omega) (by omega);rw[show((0:Nat):Int)=0 from rfl,List.take_zero,z80,<-uB']at M;replace M:=m' M;clear ax N aE ay bB;go_upto_region 12 with fail;refine(d' M).mono ?_;rintro e F ⟨nv',rfl,O,H,Y⟩;have Z:=H.blk hb (fun e=>bc (by cases e;rfl));have bk:=(y' Z).trans h0;have bl:F.frozen? ⟨w,a,none⟩=false:=(by simp[World.frozen?,Z]);have Q:(List.map (fun x=>x.1) (List.drop k d)).length=d.length - k:=(by simp);have bd:=(Qi.Qv O).shape;rw[Q]at bd;obtain⟨bC,aT,rfl,_⟩:=bd;replace Q:=m' Q;replace O:=m' O;replace Y:=m' Y;replace H:=m' H;go_wp2;go_ret;have av:=d' ad;have bD:Far (fun b=>b=w\/ShU (.slice (some ⟨g,0,none⟩) d.length cap) f b) p F:=((d' aB).mono (fun _ _ h=> .inr (.inr h))).trans (d' H) (fun _ _ h=> .inr (.inl h));have aL:∀b,b≠w->(F.setCell ⟨w,a,none⟩ (.slice bC (d.length - k) aT)).heap[b]? =F.heap[b]? :=fun b hb=>P' hb;have be:∀b,be' f=some b->b≠w/\F.heap[b]? =wr.heap[b]? :=fun b I=>by
      rcases d' ah with ⟨h,_⟩|⟨bT,h,aM⟩
      ·rw[h]at I;cases I
      ·rw[h]at I;cases I;exact⟨fun e=>aM.Qy (by rw[e];exact hb),(d' H).rest b aM.lt (fun e=>(d' ao).Vd aM e)⟩
     refine⟨_,rfl,dz' (d' ak) (fun g' z=>?_),⟨_,⟨aa' Z,by simp[aN],by rw[z16 (by omega)];exact h1,⟨(d' O).keep (fun g' z=>aL g' ?_),(d' ah).keep (fun b I=>(aL b (be b I).1).trans (be b I).2),by rw[uB'];exact av.sorted.drop,by rw[z97];omega⟩,aq⟩,d' Y⟩,bD.trans (Q' F w a _) (fun _ _ h=> .inl h)⟩
     ·have bE:=z15 (d' ak) g' z;have aZ:=z14 ab;have aK:=z14 aR;exact(aL g' (by omega)).trans ((d' H).rest g' bE.2 (fun e=>by have bU:g=g':=mq' e;omega))
     ·rw[d' Y]at z;cases z;exact bc
structure iR' (w:World) (p:Nat) (g:Nat->Nat) (tk:Nat) (wel fen:Bool) (free:List Nat) (sh:Nat->List (Nat×Value)) (arr:Array Value) (s:Nat) (nv mv:Nat->Value) (fv rv:Value):Prop where
 blk:w.heap[p]? =some (.cells arr 151 (0,0))
 sz:arr.size=27
 a0:arr[0]? =some (D' s)
 ag:∀i,i < 3->arr[1+i]? =some (.int .i64 (g i))
 an:∀k,k < 9->arr[4+k * 2]? =some (nv k)
 am:∀k,k < 9->arr[4+k * 2+1]? =some (mv k)
 af:arr[22]? =some fv
 at':arr[23]? =some (.int .i64 tk)
 aw:arr[24]? =some (.bool wel)
 ae:arr[25]? =some (.bool fen)
 ar:arr[26]? =some rv
 fr:Qi w 3 1 fv free.length (J' free)
 shs:∀k,k < 9->Jb w (nv k) (mv k) (sh k)
 apf:∀k,k < 9->∀j,ShU (nv k) (mv k) j->fv.ownBlock≠some j
 aps:∀j k,j < 9->k < 9->j≠k->∀b,ShU (nv j) (mv j) b->¬ShU (nv k) (mv k) b
def KaU (p:Nat) (nv mv:Nat->Value) (fv:Value) (k:Nat):Prop:=k=p\/fv.ownBlock=some k\/∃i,i < 9/\ShU (nv i) (mv i) k
structure Av where
 arr:Array Value
 s:Nat
 dp:Nat
 nv:Nat->Value
 mv:Nat->Value
 fv:Value
 rv:Value
 dlv:Value
 duv:Value
def cm' (p:Nat):List Value:=[.int .i64 2, .func (.func 104) #[D' p] #[], .int .i64 4, .func (.func 105) #[D' p] #[], .int .i64 5, .func (.func 106) #[D' p] #[]]
structure Je (w:World) (p:Nat) (g:Nat->Nat) (tk:Nat) (wel fen:Bool) (free:List Nat) (sh:Nat->List (Nat×Value)) (st:Mq.Stv) (c:Av):Prop where
 ks:iR' w p g tk wel fen free sh c.arr c.s c.nv c.mv c.fv c.rv
 stt:Vf w c.s c.dp st c.dlv c.duv
 rl:Qi w 183 2 c.rv 3 (cm' p)
 len:st.dk.bytes.length=1664
def PaU (p:Nat) (c:Av) (k:Nat):Prop:=KaU p c.nv c.mv c.fv k\/StU c.s c.dp c.dlv c.duv k\/c.rv.ownBlock=some k
section
variable {w x y:World} {p:Nat} {g g2:Nat->Nat} {tk tk2:Nat} {wel wel2 fen fen2:Bool} {free free2:List Nat} {sh sh2:Nat->List (Nat×Value)} {arr:Array Value} {s:Nat} {nv mv:Nat->Value} {fv rv:Value} {st st2:Mq.Stv} {c:Av}
theorem iR'.far {E:Nat->Prop} (h:iR' w p g tk wel fen free sh arr s nv mv fv rv) (z:Far E w x) (F:∀k,KaU p nv mv fv k->¬E k):iR' x p g tk wel fen free sh arr s nv mv fv rv:=
 ⟨z.blk h.blk (F p (.inl rfl)),h.sz,h.a0,h.ag,h.an,h.am,h.af,h.at',h.aw,h.ae,h.ar,h.fr.far z (fun g G=>F g (.inr (.inl G))),fun i hi=>(h.shs i hi).far z (fun k hk=>F k (.inr (.inr ⟨i,hi,hk⟩))),h.apf,h.aps⟩
theorem iR'.lt (h:iR' w p g tk wel fen free sh arr s nv mv fv rv):∀k,KaU p nv mv fv k->k < w.heap.size:=by
 rintro k (rfl|hk|⟨i,hi,hk⟩)
 ·exact z14 h.blk
 ·exact h.fr.lt k hk
 ·exact(h.shs i hi).lt k hk
theorem cA' (h:iR' w p g tk wel fen free sh arr s nv mv fv rv) {q:Nat} {z:Array Value} {t:TypeId} {fr:Nat×Nat} (hb:w.heap[q]? =some (.cells z t fr)) (h1:t≠151) (h3:t≠3):¬KaU p nv mv fv q:=by
 rintro(rfl|hk|⟨i,hi,hk⟩)
 ·have:=h.blk;rw[hb]at this;injection this with this;injection this with _ this _;exact h1 this
 ·exact h.fr.ne hb (fun e=>h3 e.symm) hk
 ·exact(h.shs i hi).ne hb h3 hk
theorem Je.lt (h:Je w p g tk wel fen free sh st c):∀k,PaU p c k->k < w.heap.size:=by
 rintro k (hk|hk|hk)
 ·exact h.ks.lt k hk
 ·exact h.stt.lt k hk
 ·exact h.rl.lt k hk
theorem Je.far {E:Nat->Prop} (h:Je w p g tk wel fen free sh st c) (z:Far E w x) (F:∀k,PaU p c k->¬E k):Je x p g tk wel fen free sh st c:=
 ⟨h.ks.far z (fun k hk=>F k (.inl hk)),h.stt.far z (fun k hk=>F k (.inr (.inl hk))),h.rl.far z (fun g G=>F g (.inr (.inr G))),h.len⟩
theorem Je.below (h:Je w p g tk wel fen free sh st c) (hb:Below w.heap.size w x):Je x p g tk wel fen free sh st c:=h.far (C' (E:=fun _=>False) hb) (fun _ _ h=>h)
theorem Je.sep (h:Je w p g tk wel fen free sh st c):∀k,KaU p c.nv c.mv c.fv k->¬StU c.s c.dp c.dlv c.duv k:=by
 rintro k hk (hs|hs|hs|hs)
 ·subst hs;exact cA' h.ks h.stt.blk (by decide) (by decide) hk
 ·subst hs;exact cA' h.ks h.stt.dk.blk (by decide) (by decide) hk
 ·obtain⟨F,z⟩:=cR' (Qi.Qv h.stt.dk.row) hs;exact cA' h.ks z (by decide) (by decide) hk
 ·obtain⟨F,z⟩:=cR' h.stt.dk.un hs;exact cA' h.ks z (by decide) (by decide) hk
theorem Je.sepr (h:Je w p g tk wel fen free sh st c):∀k,c.rv.ownBlock=some k->¬KaU p c.nv c.mv c.fv k/\¬StU c.s c.dp c.dlv c.duv k:=by
 intro k hk;obtain⟨F,z⟩:=cR' h.rl hk;refine⟨cA' h.ks z (by decide) (by decide),?_⟩;rintro(hs|hs)
 ·rw[hs,h.stt.blk]at z;injection z with z;injection z with _ z _;exact absurd z (by decide)
 ·exact ey' h.stt.dk z (by decide) (by decide) (by decide) hs
theorem dc' (z:Je w p g tk wel fen free sh st c) {q:Nat} {F:Array Value} {t:TypeId} {fr:Nat×Nat} (hb:w.heap[q]? =some (.cells F t fr))
  (h1:t≠151) (h3:t≠3) (h4:t≠203) (h5:t≠252) (G:t≠5) (H:t≠261) (I:t≠183):¬PaU p c q:=by
 rintro(h|(h|h)|h)
 ·exact cA' z.ks hb h1 h3 h
 ·subst h;have:=z.stt.blk;rw[hb]at this;injection this with this;injection this with _ this _;exact h4 this
 ·exact ey' z.stt.dk hb (fun e=>h5 e.symm) (fun e=>G e.symm) (fun e=>H e.symm) h
 ·exact z.rl.ne hb (fun e=>I e.symm) h
def Ja (w x:World) (p:Nat) (g:Nat->Nat) (tk:Nat) (wel fen:Bool) (free:List Nat) (sh:Nat->List (Nat×Value)) (st:Mq.Stv) (c:Av):Prop:=
 ∃z,Je x p g tk wel fen free sh st z/\Far (PaU p c) w x/\(∀k,PaU p z k->PaU p c k\/w.heap.size<=k)/\z.s=c.s/\z.rv=c.rv
theorem qz' (z:Je w p g tk wel fen free sh st c):Ja w w p g tk wel fen free sh st c:=⟨c,z,Far.refl _ _,fun _ h=> .inl h,rfl,rfl⟩
theorem Ja.trans (h:Ja w x p g tk wel fen free sh st c) (F:∀z,Je x p g tk wel fen free sh st z->Ja x y p g2 tk2 wel2 fen2 free2 sh2 st2 z):Ja w y p g2 tk2 wel2 fen2 free2 sh2 st2 c:=by
 obtain⟨c1,h1,h2,h3,h4,h5⟩:=h;obtain⟨c2,k1,k2,k3,k4,k5⟩:=F c1 h1;refine⟨c2,k1,h2.trans k2 (fun k hk hu=>(h3 k hu).elim id (fun h=>by omega)),fun k hk=>?_,k4.trans h4,k5.trans h5⟩;rcases k3 k hk with h|h
 ·exact h3 k h
 ·exact .inr (z26 h2.size h)
theorem Ja.below (h:Ja w x p g tk wel fen free sh st c) (hb:Below x.heap.size x y):Ja w y p g tk wel fen free sh st c:=
 h.trans (fun z F=>⟨z,F.below hb,C' hb,fun _ h=> .inl h,rfl,rfl⟩)
theorem Ja.behind (h:Ja x y p g tk wel fen free sh st c) (hb:Below w.heap.size w x):Ja w y p g tk wel fen free sh st c:=by
 obtain⟨z,h1,h2,h3,h4,h5⟩:=h;exact⟨z,h1,(C' (E:=PaU p c) hb).trans h2 (fun _ _ h=>h),fun k hk=>(h3 k hk).imp id (fun h=>z26 hb.size h),h4,h5⟩
theorem Je.shAt (z:Je w p g tk wel fen free sh st c) {i:Nat} (hi:i < 9):eR' w p (4+i * 2) 151 c.arr (c.nv i) (c.mv i) (sh i):=
 ⟨z.ks.blk,z.ks.an i hi,z.ks.am i hi,z.ks.shs i hi,by decide⟩
theorem cS' (z:Je w p g tk wel fen free sh st c) {i:Nat} (hi:i < 9) (h:cq' w x p (4+i * 2) 151 c.arr (c.nv i) (c.mv i) d):
  Ja w x p g tk wel fen free (fun t=>if t=i then d else sh t) st c:=by
 obtain⟨⟨nv',mv',S,hn,V⟩,hF⟩:=h;have Q:∀k,(k=p\/ShU (c.nv i) (c.mv i) k)->KaU p c.nv c.mv c.fv k:=fun k hk=>hk.elim .inl (fun h=> .inr (.inr ⟨i,hi,h⟩));have Y:=z.ks.sz;have F:∀j,j≠4+i * 2->j≠4+i * 2+1->((c.arr.setIfInBounds (4+i * 2) nv').setIfInBounds (4+i * 2+1) mv')[j]? =c.arr[j]? :=fun j h1 h2=>by rw[z16 (by omega),z16 (by omega)]
 have J:∀k,ShU nv' mv' k->ShU (c.nv i) (c.mv i) k\/w.heap.size<=k:=by
  rintro k (hk|hk)
  ·rcases hn with h|h|⟨g,h,H⟩
   ·rw[h]at hk;cases hk
   ·exact .inl (.inl (by rw[<-h];exact hk))
   ·rw[h]at hk;cases hk;exact .inr H
  ·rcases V with h|⟨g,h,H⟩
   ·exact .inl (.inr (by rw[<-h];exact hk))
   ·rw[h]at hk;cases hk;exact .inr H
 have Z:c.fv.ownBlock≠some p:=z.ks.fr.ne z.ks.blk (by decide);refine⟨{c with arr:=(c.arr.setIfInBounds (4+i * 2) nv').setIfInBounds (4+i * 2+1) mv',nv:=fun t=>if t=i then nv' else c.nv t,mv:=fun t=>if t=i then mv' else c.mv t},
  ⟨⟨S.blk,by simpa using Y,?_,?_,?_,?_,?_,?_,?_,?_,?_,?_,?_,?_,?_⟩,z.stt.far hF (fun k hk h=>z.sep k (Q k h) hk),z.rl.far hF (fun g H h=>(z.sepr g H).1 (Q g h)),z.len⟩,hF.mono (fun k _ h=> .inl (Q k h)),?_,rfl,rfl⟩
 ·rw[F _ (by omega) (by omega)];exact z.ks.a0
 ·intro j hj;rw[F _ (by omega) (by omega)];exact z.ks.ag j hj
 ·intro j hj;show _=some (if j=i then nv' else c.nv j);by_cases e:j=i
  ·subst e;rw[if_pos rfl];exact S.c0
  ·rw[if_neg e,F _ (by omega) (by omega)];exact z.ks.an j hj
 ·intro j hj;show _=some (if j=i then mv' else c.mv j);by_cases e:j=i
  ·subst e;rw[if_pos rfl];exact S.c1
  ·rw[if_neg e,F _ (by omega) (by omega)];exact z.ks.am j hj
 ·rw[F _ (by omega) (by omega)];exact z.ks.af
 ·rw[F _ (by omega) (by omega)];exact z.ks.at'
 ·rw[F _ (by omega) (by omega)];exact z.ks.aw
 ·rw[F _ (by omega) (by omega)];exact z.ks.ae
 ·rw[F _ (by omega) (by omega)];exact z.ks.ar
 ·exact z.ks.fr.far hF (fun g H h=>h.elim (fun h=>Z (by rw[H,h])) (fun h=>z.ks.apf i hi g h H))
 ·intro j hj;show Jb x (if j=i then nv' else c.nv j) (if j=i then mv' else c.mv j) (if j=i then d else sh j);by_cases e:j=i
  ·rw[if_pos e,if_pos e,if_pos e];exact S.sh
  ·rw[if_neg e,if_neg e,if_neg e];refine(z.ks.shs j hj).far hF (fun k hk h=>?_);rcases h with h|h
   ·exact(z.ks.shs j hj).ne z.ks.blk (by decide) (by rw[<-h];exact hk)
   ·exact z.ks.aps j i hj hi e k hk h
 ·intro j hj b hb;replace hb:ShU (if j=i then nv' else c.nv j) (if j=i then mv' else c.mv j) b:=hb;by_cases e:j=i
  ·rw[if_pos e,if_pos e]at hb;rcases J b hb with h|h
   ·exact z.ks.apf i hi b h
   ·intro aa;have:=z.ks.fr.lt b aa;omega
  ·rw[if_neg e,if_neg e]at hb;exact z.ks.apf j hj b hb
 ·intro j G hj M I k hk;replace hk:ShU (if j=i then nv' else c.nv j) (if j=i then mv' else c.mv j) k:=hk;show ¬ShU (if G=i then nv' else c.nv G) (if G=i then mv' else c.mv G) k;by_cases h1:j=i
  ·subst h1;rw[if_pos rfl,if_pos rfl]at hk;rw[if_neg (fun e=>I e.symm),if_neg (fun e=>I e.symm)];intro O;rcases J k hk with h|h
   ·exact z.ks.aps j G hj M I k h O
   ·have:=(z.ks.shs G M).lt k O;omega
  ·rw[if_neg h1,if_neg h1]at hk;by_cases h2:G=i
   ·subst h2;rw[if_pos rfl,if_pos rfl];intro O;rcases J k O with h|h
    ·exact z.ks.aps j G hj M I k hk h
    ·have:=(z.ks.shs j hj).lt k hk;omega
   ·rw[if_neg h2,if_neg h2];exact z.ks.aps j G hj M I k hk
 ·rintro k ((rfl|hk|⟨j,hj,hk⟩)|hk|hk)
  ·exact .inl (.inl (.inl rfl))
  ·exact .inl (.inl (.inr (.inl hk)))
  ·have hk:ShU (if j=i then nv' else c.nv j) (if j=i then mv' else c.mv j) k:=hk;by_cases e:j=i
   ·rw[if_pos e,if_pos e]at hk;exact(J k hk).elim (fun h=> .inl (.inl (.inr (.inr ⟨i,hi,h⟩)))) .inr
   ·rw[if_neg e,if_neg e]at hk;exact .inl (.inl (.inr (.inr ⟨j,hj,hk⟩)))
  ·exact .inl (.inr (.inl hk))
  ·exact .inl (.inr (.inr hk))
theorem ez' (z:Je w p g tk wel fen free sh st c) (i:Nat) (v:Value) (hi:(1<=i/\i < 4)\/(23<=i/\i < 26))
  (F:∀j,j < 3->(c.arr.setIfInBounds i v)[1+j]? =some (.int .i64 (g2 j))) (H:(c.arr.setIfInBounds i v)[23]? =some (.int .i64 tk2)) (I:(c.arr.setIfInBounds i v)[24]? =some (.bool wel2)) (J:(c.arr.setIfInBounds i v)[25]? =some (.bool fen2)):
  Ja w (w.setCell ⟨p,i,none⟩ v) p g2 tk2 wel2 fen2 free sh st c:=by
 have hs:=Q' w p i v;have G:∀j,j≠i->(c.arr.setIfInBounds i v)[j]? =c.arr[j]? :=fun j hj=>z16 (fun e=>hj e.symm);have M:c.fv.ownBlock≠some p:=z.ks.fr.ne z.ks.blk (by decide);refine⟨{c with arr:=c.arr.setIfInBounds i v},⟨⟨aa' z.ks.blk,by simpa using z.ks.sz,?_,F,?_,?_,?_,H,I,J,?_,?_,?_,z.ks.apf,z.ks.aps⟩,z.stt.far hs (fun k hk h=>z.sep k (.inl h) hk),z.rl.far hs (fun g F h=>(z.sepr g F).1 (.inl h)),z.len⟩,hs.mono (fun k _ h=> .inl (.inl h)),fun k hk=> .inl hk,rfl,rfl⟩
 ·rw[G _ (by omega)];exact z.ks.a0
 ·intro j hj;rw[G _ (by omega)];exact z.ks.an j hj
 ·intro j hj;rw[G _ (by omega)];exact z.ks.am j hj
 ·rw[G _ (by omega)];exact z.ks.af
 ·rw[G _ (by omega)];exact z.ks.ar
 ·exact z.ks.fr.far hs (fun g F h=>M (by rw[F,h]))
 ·intro j hj;exact(z.ks.shs j hj).far hs (fun k hk h=>(z.ks.shs j hj).ne z.ks.blk (by decide) (by rw[<-h];exact hk))
theorem jI' (z:Je w p g tk wel fen free sh st c) (v:Value) (hF:Far (fun k=>c.fv.ownBlock=some k) w x) (M:Qi x 3 1 v free2.length (J' free2)) (hl:Loc w c.fv v):
  Ja w (x.setCell ⟨p,22,none⟩ v) p g tk wel fen free2 sh st c:=by
 have hs:=Q' x p 22 v;have F:∀j,j≠22->(c.arr.setIfInBounds 22 v)[j]? =c.arr[j]? :=fun j hj=>z16 (fun e=>hj e.symm);have V:22 < c.arr.size:=by rw[z.ks.sz];omega
 have Y:c.fv.ownBlock≠some p:=z.ks.fr.ne z.ks.blk (by decide);have O:=hF.blk z.ks.blk Y;have Z:v.ownBlock≠some p:=M.ne O (by decide);have H:Far (fun k=>k=p\/c.fv.ownBlock=some k) w (x.setCell ⟨p,22,none⟩ v):=(hF.mono (fun _ _ h=> .inr h)).trans hs (fun _ _ h=> .inl h);have I:∀k,(k=p\/c.fv.ownBlock=some k)->KaU p c.nv c.mv c.fv k:=fun k h=>h.elim .inl (fun h=> .inr (.inl h));refine⟨{c with arr:=c.arr.setIfInBounds 22 v,fv:=v},⟨⟨aa' O,by simpa using z.ks.sz,?_,?_,?_,?_,?_,?_,?_,?_,?_,?_,?_,?_,z.ks.aps⟩,z.stt.far H (fun k hk h=>z.sep k (I k h) hk),z.rl.far H (fun g J h=>(z.sepr g J).1 (I g h)),z.len⟩,H.mono (fun k _ h=> .inl (I k h)),?_,rfl,rfl⟩
 ·rw[F _ (by omega)];exact z.ks.a0
 ·intro j hj;rw[F _ (by omega)];exact z.ks.ag j hj
 ·intro j hj;rw[F _ (by omega)];exact z.ks.an j hj
 ·intro j hj;rw[F _ (by omega)];exact z.ks.am j hj
 ·simp[V]
 ·rw[F _ (by omega)];exact z.ks.at'
 ·rw[F _ (by omega)];exact z.ks.aw
 ·rw[F _ (by omega)];exact z.ks.ae
 ·rw[F _ (by omega)];exact z.ks.ar
 ·exact M.far hs (fun g J e=>Z (by rw[J,e]))
 ·intro j hj;refine(z.ks.shs j hj).far H (fun k hk e=>?_);rcases e with rfl|e
  ·exact(z.ks.shs j hj).ne z.ks.blk (by decide) hk
  ·exact z.ks.apf j hj k hk e
 ·intro j hj b hb G;rcases hl with h|h|⟨g',h,Q⟩
  ·rw[h]at G;cases G
  ·rw[h]at G;exact z.ks.apf j hj b hb G
  ·rw[h]at G;cases G;have:=(z.ks.shs j hj).lt b hb;omega
 ·rintro k ((rfl|hk|hk)|hk|hk)
  ·exact .inl (.inl (.inl rfl))
  ·rcases hl with h|h|⟨g',h,Q⟩
   ·rw[h]at hk;cases hk
   ·exact .inl (.inl (.inr (.inl (by rw[<-h];exact hk))))
   ·rw[h]at hk;cases hk;exact .inr Q
  ·exact .inl (.inl (.inr (.inr hk)))
  ·exact .inl (.inr (.inl hk))
  ·exact .inl (.inr (.inr hk))
end
def aD':Nat->List (z10×Nat)->List Nat->List (Nat×Value)
 |b,x::r,q::z=>(b+1,cN' x.1 q)::aD' (b+1) r z
 | _,_,_=>[]
theorem aQ' (b:Nat) (x:z10×Nat) (r:List (z10×Nat)) (q:Nat) (z:List Nat):aD' b (x::r) (q::z)=(b+1,cN' x.1 q)::aD' (b+1) r z:=rfl
theorem dU':∀ (b:Nat) (k:List (z10×Nat)) (p:List Nat),p.length=k.length->(aD' b k p).length=k.length
 |b,[],[],_=>rfl
 |b,x::r,q::z,h=>by rw[aQ',z56,dU' (b+1) r z (by simpa using h),z56]
theorem iS':∀ (b:Nat) (k:List (z10×Nat)) (p:List Nat) (j:Nat),p.length=k.length->∀ (hj:j < k.length),(aD' b k p)[j]? =some (b+1+j,cN' k[j].1 (p.getD j 0))
 |b,[],_,j,_,hj=>by simp at hj
 |b,x::r,[],j,h,_=>by simp at h
 |b,x::r,q::z,0,h,hj=>by simp[aD']
 |b,x::r,q::z,j+1,h,hj=>by rw[aQ',wn',iS' (b+1) r z j (by simpa using h) (by simpa using hj)];simp;omega
theorem iT':∀ (b:Nat) (k z:List (z10×Nat)) (p F:List Nat),p.length=k.length->aD' b (k++z) (p++F)=aD' b k p++aD' (b+k.length) z F
 |b,[],z,[],F,_=>by simp[aD']
 |b,[],z,q::G,F,h=>by simp at h
 |b,x::r,z,[],F,h=>by simp at h
 |b,x::r,z,q::G,F,h=>by show aD' b (x::(r++z)) (q::(G++F))= _;rw[aQ',aQ',iT' (b+1) r z G F (by simpa using h),show b+1+r.length=b+(r.length+1) by omega];rfl
theorem fg':∀ (b:Nat) (k z:List (z10×Nat)) (p:List Nat),k.map (·.1)=z.map (·.1)->aD' b k p=aD' b z p
 | _,[],[],_,_=>rfl
 |b,[],_:: _,p,h=>by simp at h
 |b,_:: _,[],p,h=>by simp at h
 |b,x::r,y::s,[],_=>by simp[aD']
 |b,x::r,y::s,q::F,h=>by simp only[List.map_cons,List.cons.injEq]at h;rw[aQ',aQ',h.1,fg' (b+1) r s F h.2]
theorem ny':∀ (b:Nat) (k:List (z10×Nat)) (p:List Nat),∀x∈aD' b k p,b < x.1
 |b,[],_,x,z=>by simp[aD']at z
 |b,_:: _,[],x,z=>by simp[aD']at z
 |b,y::r,q::F,x,z=>by
  rw[aQ']at z;cases z with
  |head=>show b < b+1;omega
  |tail _ z=>have:=ny' (b+1) r F x z;omega
theorem qA':∀ (b:Nat) (k:List (z10×Nat)) (p:List Nat),∀x∈aD' b k p,x.1<=b+k.length
 |b,[],_,x,z=>by simp[aD']at z
 |b,_:: _,[],x,z=>by simp[aD']at z
 |b,y::r,q::F,x,z=>by
  rw[aQ']at z;cases z with
  |head=>show b+1<= _;simp
  |tail _ z=>have:=qA' (b+1) r F x z;simp at this ⊢;omega
theorem gn':∀ (b:Nat) (k:List (z10×Nat)) (p:List Nat),ou' (aD' b k p)
 |b,[],_,x,z=>by simp[aD']at z
 |b,_:: _,[],x,z=>by simp[aD']at z
 |b,y::r,q::F,x,z=>by
  rw[aQ']at z;cases z with
  |head=>exact⟨y.1,q,rfl⟩
  |tail _ z=>exact gn' (b+1) r F x z
theorem sP' (b:Nat) (k:List (z10×Nat)) (p:List Nat) (h:p.length=k.length):max (match(aD' b k p).getLast? with|none=>0|some x=>x.1) b=b+k.length:=by
 rcases wo' k with rfl|⟨z,x,rfl⟩
 ·simp[aD']
 ·rcases wo' p with rfl|⟨F,q,rfl⟩
  ·simp at h
  ·have G:F.length=z.length:=(by simpa using h);have:(aD' b (z++[x]) (F++[q])).getLast?=some (b+z.length+1,cN' x.1 q):=(by rw[iT' b z [x] F [q] G];simp[aD']);rw[wp',wp']at *;rw[this];simp;omega
theorem qB':∀ (l:List (Nat×Value)) (n:Nat) (v:Value),(∀x∈l,x.1 < n)->br' l n v=l++[(n,v)]
 |[],n,v,_=>rfl
 |x::r,n,v,h=>by have h0:=h x (.head _);unfold br';rw[if_neg (by omega),if_neg (by omega),qB' r n v (fun y z=>h y (.tail _ z))];rfl
theorem uU' (b:Nat) (k:List (z10×Nat)) (p:List Nat) (h:p.length=k.length) (s:z10) (t q:Nat):br' (aD' b k p) (b+k.length+1) (cN' s q)=aD' b (k++[(s,t)]) (p++[q]):=by
 rw[qB' _ _ _ (fun x z=>by have:=qA' b k p x z;omega),iT' b k [(s,t)] p [q] h];simp[aD']
theorem ll':∀ (n b:Nat) (k:List (z10×Nat)) (p:List Nat),n<=k.length->p.length=k.length->(aD' b k p).drop n=aD' (b+n) (k.drop n) (p.drop n)
 |0,b,k,p,_,_=>rfl
 |n+1,b,[],p,h,_=>by simp at h
 |n+1,b,x::r,[],_,h=>by simp at h
 |n+1,b,x::r,q::z,h,h2=>by show(aD' b (x::r) (q::z)).drop (n+1)=aD' (b+(n+1)) (r.drop n) (z.drop n);rw[aQ',wr',ll' n (b+1) r z (by simpa using h) (by simpa using h2),show b+1+n=b+(n+1) by omega]
theorem go':∀ (n b:Nat) (k:List (z10×Nat)) (p:List Nat),n<=k.length->p.length=k.length->bA' (aD' b k p) (b+n)=n
 |0,b,k,p,_,_=>by unfold bA';rw[xJ'];intro x z;have:=ny' b k p x z;simp;omega
 |n+1,b,[],p,h,_=>by simp at h
 |n+1,b,x::r,[],_,h=>by simp at h
 |n+1,b,x::r,q::F,h,h2=>by have ih:=go' n (b+1) r F (by simpa using h) (by simpa using h2);unfold bA' at ih ⊢;rw[aQ',rW',show b+(n+1)=b+1+n by omega,ih];simp
def dd' (f:Mq.Jl) (n:Nat):Option Value:=
 if n<=f.base then none else match f.kept[n - f.base - 1]? with
  |some x=>if x.2=0 then none else some (eT' x.2)
  |none=>none
structure Js (a:Mq.Ag) (op:Nat) (g:Nat->Nat) (free:List Nat) (sh:Nat->List (Nat×Value)) (pl:Nat->List Nat):Prop where
 ep:op=a.Qa
 bs:∀i,i < 3->g i=(a.fl i).base
 pn:∀i,i < 3->(pl i).length=(a.fl i).kept.length
 kp:∀i,i < 3->sh (i * 3)=aD' (a.fl i).base (a.fl i).kept (pl i)
 sn:∀i,i < 3->∀n:Nat,al' (sh (i * 3+1)) (n:Int)=dd' (a.fl i) n
 si:∀i,i < 3->lk' (sh (i * 3+1))
 hd:∀i,i < 3->∀n:Nat,(al' (sh (i * 3+2)) (n:Int)).isSome=(a.fl i).held.contains n
 hu:∀i,i < 3->oD' (sh (i * 3+2))
 hl:∀i,i < 3->(sh (i * 3+2)).length<=3
 nd:(free++pl 0++pl 1++pl 2).Nodup
 lt:∀x∈free++pl 0++pl 1++pl 2,x < 24
 sum:free.length+a.room=24
theorem oE' {a:Mq.Ag} {i:Nat} (hi:i < 3):(a.fl i).kept.length<=a.room:=by
 obtain rfl|rfl|rfl:i=0\/i=1\/i=2:=by omega
 all_goals
  unfold Mq.Ag.room;omega
variable{y:Mq.Ag}{Q:Nat -> Nat}{k:List Nat}{R:Nat -> List (Nat×Value)}{V:Nat -> List Nat}
theorem Js.small (z:Js y w Q k R V) (hi:a < 3):(y.fl a).kept.length<=24:=by
 have:=oE' (a:=y) hi;have:=z.sum;omega
variable{bC:Mq.Jl}
theorem sQ' (hs:(d.map (·.1)).Pairwise (· < ·)) (h:∀n:Nat,al' d (n:Int)=dd' bC n):d.length<=bC.kept.length:=by
 have F:∀n∈d.map (·.1),bC.base < n/\n<=bC.base+bC.kept.length:=by
  intro n hn;have z:(al' d (n:Int)).isSome=true:=by rw[fN'];simpa using hn
  rw[h n]at z;unfold dd' at z;split at z
  ·cases z
  ·split at z
   ·rename_i x G;have:=(z28.1 G).1;omega
   ·cases z
 have h1:((d.map (·.1)).map fun n=>n - bC.base - 1).Nodup:=by rw[List.Nodup,xU'];refine hs.imp_of_mem (fun {x y} G H J e=>?_);have M:=F x G;have O:=F y H;omega
 have h2:=fE' bC.kept.length _ h1 (fun n hn=>by obtain⟨m,I,rfl⟩:=z63.1 hn;have:=F m I;omega);simpa using h2
section
variable {a:Mq.Ag} {op:Nat} {g:Nat->Nat} {free:List Nat} {sh:Nat->List (Nat×Value)} {pl:Nat->List Nat}
theorem sR' (f:Mq.Jl) (s:z10) (n:Nat):dd' {f with kept:=f.kept++[(s,0)]} n=dd' f n:=by
 unfold dd';simp only
 split
 ·rfl
 ·by_cases h:n - f.base - 1 < f.kept.length
  ·rw[z45 h]
  ·rw[z29 (by omega)];have h2:f.kept[n - f.base - 1]? =none:=z76 (by omega);rw[h2];by_cases h3:n - f.base - 1 - f.kept.length=0
   ·rw[h3];rfl
   ·have:([(s,0)]:List (z10×Nat))[n - f.base - 1 - f.kept.length]? =none:=z76 (by simp;omega);rw[this]
theorem ki' (hi:w < 3) (z:List Nat) (fr:List Nat) (h:(fr++z).Perm (free++pl w)):
  (fr++(fun t=>if t=w then z else pl t) 0++(fun t=>if t=w then z else pl t) 1++(fun t=>if t=w then z else pl t) 2).Perm (free++pl 0++pl 1++pl 2):=by
 obtain rfl|rfl|rfl:w=0\/w=1\/w=2:=by omega
 ·simp only[if_pos,if_neg (show ¬ (1:Nat)=0 by omega),if_neg (show ¬ (2:Nat)=0 by omega)];exact(h.append_right _).append_right _
 ·simp only[if_neg (show ¬ (0:Nat)=1 by omega),if_pos,if_neg (show ¬ (2:Nat)=1 by omega)];refine zH' _ ?_;have h1:(fr++pl 0++z).Perm (fr++z++pl 0):=by rw[z38,z38];exact List.perm_append_comm.append_left _
  have h2:(free++pl 1++pl 0).Perm (free++pl 0++pl 1):=by rw[z38,z38];exact List.perm_append_comm.append_left _
  exact(h1.trans (h.append_right _)).trans h2
 ·simp only[if_neg (show ¬ (0:Nat)=2 by omega),if_neg (show ¬ (1:Nat)=2 by omega),if_pos];have h1:(fr++pl 0++pl 1++z).Perm (fr++z++(pl 0++pl 1)):=by rw[z38 fr,z38,z38 fr z];exact List.perm_append_comm.append_left _
  have h2:(free++pl 2++(pl 0++pl 1)).Perm (free++pl 0++pl 1++pl 2):=by rw[z38 free (pl 0),z38,z38];exact List.perm_append_comm.append_left _
  exact(h1.trans (h.append_right _)).trans h2
theorem ig' (hi:w < 3) (f:Mq.Jl):(Mq.Ag.room {a with fl:=Mq.upd a.fl w f})+(a.fl w).kept.length=a.room+f.kept.length:=by
 obtain rfl|rfl|rfl:w=0\/w=1\/w=2:=by omega
 all_goals
  simp[Mq.Ag.room,Mq.upd];omega
theorem qC' {fr:List Nat} {q:Nat} (z:Js a op g (fr++[q]) sh pl) {i:Nat} (hi:i < 3) (s:z10):
  Js (a.Xi i s) op g fr (fun t=>if t=i * 3 then br' (sh (i * 3)) ((a.fl i).base+(a.fl i).kept.length+1) (cN' s q)else sh t) (fun t=>if t=i then pl i++[q]else pl t):=by
 have F:∀j,(a.Xi i s).fl j=if j=i then {a.fl i with kept:=(a.fl i).kept++[(s,0)]}else a.fl j:=fun j=>rfl
 refine⟨z.ep,fun j hj=>?_,fun j hj=>?_,fun j hj=>?_,fun j hj n=>?_,fun j hj=>?_,fun j hj n=>?_,fun j hj=>?_,fun j hj=>?_,?_,?_,?_⟩
 ·rw[F];by_cases e:j=i
  ·subst e;rw[if_pos rfl];exact z.bs j hj
  ·rw[if_neg e];exact z.bs j hj
 ·rw[F];show(if j=i then pl i++[q]else pl j).length= _;by_cases e:j=i
  ·subst e;rw[if_pos rfl,if_pos rfl];simp[z.pn j hj]
  ·rw[if_neg e,if_neg e];exact z.pn j hj
 ·rw[F];show(if j * 3=i * 3 then _ else sh (j * 3))=aD' _ _ (if j=i then pl i++[q]else pl j);by_cases e:j=i
  ·subst e;rw[if_pos rfl,if_pos rfl,if_pos rfl,z.kp j hj];exact uU' _ _ _ (z.pn j hj) s 0 q
  ·rw[if_neg (by omega),if_neg e,if_neg e];exact z.kp j hj
 ·show al' (if j * 3+1=i * 3 then _ else sh (j * 3+1)) _= _;rw[if_neg (by omega),F,z.sn j hj n];by_cases e:j=i
  ·subst e;rw[if_pos rfl,sR']
  ·rw[if_neg e]
 ·show lk' (if j * 3+1=i * 3 then _ else sh (j * 3+1));rw[if_neg (by omega)];exact z.si j hj
 ·show(al' (if j * 3+2=i * 3 then _ else sh (j * 3+2)) _).isSome= _;rw[if_neg (by omega),F,z.hd j hj n];by_cases e:j=i
  ·subst e;rw[if_pos rfl]
  ·rw[if_neg e]
 ·show oD' (if j * 3+2=i * 3 then _ else sh (j * 3+2));rw[if_neg (by omega)];exact z.hu j hj
 ·show(if j * 3+2=i * 3 then _ else sh (j * 3+2)).length<=3;rw[if_neg (by omega)];exact z.hl j hj
 ·refine(ki' hi (pl i++[q]) fr ?_).nodup_iff.2 z.nd;rw[z38 fr [q]];exact List.perm_append_comm.append_left _
 ·intro x H;refine z.lt x ((ki' hi (pl i++[q]) fr ?_).mem_iff.1 H);rw[z38 fr [q]];exact List.perm_append_comm.append_left _
 ·have h1:=z.sum;obtain⟨f2,G⟩:=exq (({a.fl i with kept:=(a.fl i).kept++[(s,0)]}:Mq.Jl));have hk:f2.kept.length=(a.fl i).kept.length+1:=by rw[G];simp
  have h3:(a.Xi i s).room=Mq.Ag.room {a with fl:=Mq.upd a.fl i f2}:=by rw[G];rfl
  have h2:=ig' (a:=a) hi f2;rw[hk]at h2;rw[h3];rw[z35,z90]at h1;omega
theorem oF' (hs:(d.map (·.1)).Pairwise (· < ·)) (m n:Nat):al' (d.drop (bA' d m)) (n:Int)=if n<=m then none else al' d (n:Int):=by
 obtain⟨h1,h2⟩:=uH' (n:=m) hs;have I:∀ (z F:List (Nat×Value)) (k:Int),al' (z++F) k=match al' z k with|some v=>some v|none=>al' F k:=by
  intro z F k;induction z with
  |nil=>rfl
  |cons x r ih=>
   show al' (x::(r++F)) k= _;rw[cj',cj'];by_cases h:k=(x.1:Int)
   ·rw[if_pos h,if_pos h]
   ·rw[if_neg h,if_neg h,ih]
 have hl:d=d.take (bA' d m)++d.drop (bA' d m):=(wH' _ _).symm;by_cases hn:n<=m
 ·rw[if_pos hn];cases G:al' (d.drop (bA' d m)) (n:Int)with
  |none=>rfl
  |some v=>obtain⟨x,H,e,_⟩:=dE' G;have:=h2 x H;omega
 ·rw[if_neg hn];conv=>rhs;rw[hl]
  rw[I];cases G:al' (d.take (bA' d m)) (n:Int)with
  |none=>rfl
  |some v=>obtain⟨x,H,e,_⟩:=dE' G;have:=h1 x H;omega
theorem sS' (f:Mq.Jl) (m n:Nat):dd' (f.drop m) n=if n<=f.base+m then none else dd' f n:=by
 unfold dd' Mq.Jl.drop;simp only
 by_cases h:n<=f.base+m
 ·rw[if_pos h,if_pos h]
 ·rw[if_neg h,if_neg h,if_neg (by omega),z83,show m+(n - (f.base+m) - 1)=n - f.base - 1 by omega]
theorem sT' (z:Js a op g free sh pl) {n:Nat} (hi:w < 3) (hn:n<=(a.fl w).kept.length) (hs:((sh (w * 3+1)).map (·.1)).Pairwise (· < ·)):
  Js {a with fl:=Mq.upd a.fl w ((a.fl w).drop n)} op (fun t=>(Mq.upd a.fl w ((a.fl w).drop n) t).base) (free++(pl w).take n)
   (fun t=>if t=w * 3+1 then(sh (w * 3+1)).drop (bA' (sh (w * 3+1)) ((a.fl w).base+n))else(fun t=>if t=w * 3 then(sh (w * 3)).drop (bA' (sh (w * 3)) ((a.fl w).base+n))else sh t) t) (fun t=>if t=w then(pl w).drop n else pl t):=by
 have F:∀j,Mq.upd a.fl w ((a.fl w).drop n) j=if j=w then(a.fl w).drop n else a.fl j:=fun j=>rfl
 refine⟨z.ep,fun j hj=>rfl,fun j hj=>?_,fun j hj=>?_,fun j hj m=>?_,fun j hj=>?_,fun j hj m=>?_,fun j hj=>?_,fun j hj=>?_,?_,?_,?_⟩
 ·show(if j=w then(pl w).drop n else pl j).length=(Mq.upd a.fl w ((a.fl w).drop n) j).kept.length;rw[F];by_cases e:j=w
  ·subst e;rw[if_pos rfl,if_pos rfl];simp[Mq.Jl.drop,z.pn j hj]
  ·rw[if_neg e,if_neg e];exact z.pn j hj
 ·show(if j * 3=w * 3+1 then _ else if j * 3=w * 3 then _ else sh (j * 3))=aD' (Mq.upd a.fl w ((a.fl w).drop n) j).base (Mq.upd a.fl w ((a.fl w).drop n) j).kept (if j=w then(pl w).drop n else pl j);rw[F,if_neg (by omega)];by_cases e:j=w
  ·subst e;rw[if_pos rfl,if_pos rfl,if_pos rfl,z.kp j hj,go' n _ _ _ hn (z.pn j hj)];exact ll' n _ _ _ hn (z.pn j hj)
  ·rw[if_neg (by omega),if_neg e,if_neg e];exact z.kp j hj
 ·show al' (if j * 3+1=w * 3+1 then _ else if j * 3+1=w * 3 then _ else sh (j * 3+1)) _=dd' (Mq.upd a.fl w ((a.fl w).drop n) j) m;rw[F];by_cases e:j=w
  ·subst e;rw[if_pos rfl,if_pos rfl,oF' hs,sS',z.sn j hj m]
  ·rw[if_neg (by omega),if_neg (by omega),if_neg e];exact z.sn j hj m
 ·show lk' (if j * 3+1=w * 3+1 then _ else if j * 3+1=w * 3 then _ else sh (j * 3+1));by_cases e:j=w
  ·subst e;rw[if_pos rfl];exact fun x G=>z.si j hj x (zw' G)
  ·rw[if_neg (by omega),if_neg (by omega)];exact z.si j hj
 ·show(al' (if j * 3+2=w * 3+1 then _ else if j * 3+2=w * 3 then _ else sh (j * 3+2)) _).isSome=(Mq.upd a.fl w ((a.fl w).drop n) j).held.contains m;rw[F,if_neg (by omega),if_neg (by omega),z.hd j hj m];by_cases e:j=w
  ·subst e;rw[if_pos rfl];rfl
  ·rw[if_neg e]
 ·show oD' (if j * 3+2=w * 3+1 then _ else if j * 3+2=w * 3 then _ else sh (j * 3+2));rw[if_neg (by omega),if_neg (by omega)];exact z.hu j hj
 ·show(if j * 3+2=w * 3+1 then _ else if j * 3+2=w * 3 then _ else sh (j * 3+2)).length<=3;rw[if_neg (by omega),if_neg (by omega)];exact z.hl j hj
 ·refine(ki' hi ((pl w).drop n) (free++(pl w).take n) ?_).nodup_iff.2 z.nd;rw[z38,wH']
 ·intro x G;refine z.lt x ((ki' hi ((pl w).drop n) (free++(pl w).take n) ?_).mem_iff.1 G);rw[z38,wH']
 ·have h1:=z.sum;have h2:=ig' (a:=a) hi ((a.fl w).drop n);have h3:=z.pn w hi;have h4:((a.fl w).drop n).kept.length=(a.fl w).kept.length - n:=by simp[Mq.Jl.drop]
  rw[h4]at h2;rw[z35,z71];omega
end
section
variable {w:World} {p:Nat} {g:Nat->Nat} {tk:Nat} {wel fen:Bool} {free:List Nat} {sh:Nat->List (Nat×Value)} {st:Mq.Stv} {c:Av} {a:Mq.Ag} {op:Nat} {go:Nat->Nat} {pl:Nat->List Nat}
theorem bW' (z:Je w p g tk wel fen free sh st c):
  Calls prog 66 #[D' p] w fun r w'=>r= .returned (.int .i64 st.Qe)/\w'=w:=by
 have c0:w.cell? ⟨p,0,none⟩=some (D' c.s):=by rw[y' z.ks.blk,z.ks.a0]
 have F:=m' (iM' z.stt);clear z;unfold D' at *;go_enter func66,ntmps66;go_wp2_with (go_at_call 111;refine(d' F).mono ?_;rintro r y ⟨rfl,rfl⟩);go_ret;exact⟨rfl,rfl⟩
theorem gR' (G:Je w p g tk wel fen free sh st c) (H:Js a op go free sh pl) {i:Nat} (hi:i < 3) (I:g i=(a.fl i).base):
  Calls prog 88 #[D' p, .int .i64 i] w fun r w'=>r= .returned (.int .i64 ((a.fl i).base+(a.fl i).kept.length:Nat))/\∃n,w'=w.drewN n:=by
 have z:=nq' G.ks.blk (G.ks.an (i * 3) (by omega)) (G.ks.shs (i * 3) (by omega));rw[H.kp i hi,show 4+i * 3 * 2=4+i * 6 by omega]at z;have F:=sP' (a.fl i).base (a.fl i).kept (pl i) (H.pn i hi);obtain⟨m,J,F,z⟩:∃ (m:Nat) (J:Bool),max m (a.fl i).base=(a.fl i).base+(a.fl i).kept.length/\Calls prog 129 #[.pointer (some ⟨p,4+i * 6,none⟩)] w fun e w'=>e= .returned (.tuple #[.int .i64 m, .bool J])/\∃n,w'=w.drewN n:=by
  cases M:(aD' (a.fl i).base (a.fl i).kept (pl i)).getLast? with
  |none=>rw[M]at z F;exact⟨0,false,F,z⟩
  |some x=>rw[M]at z F;exact⟨x.1,true,F,z⟩
 have O:w.cell? ⟨p,1+i,none⟩=some (.int .i64 (g i)):=by rw[y' G.ks.blk,G.ks.ag i hi]
 rw[I]at O;obtain⟨n,hn⟩:=exq ((a.fl i).base+(a.fl i).kept.length);rw[<-hn]at F ⊢;obtain⟨b,hb⟩:=exq ((a.fl i).base);rw[<-hb]at F O;have Q:max (m:Int) (b:Int)=(n:Int):=by omega
 have V:=m' z;have Y:(0:Int)<=(i:Int):=by omega
 have Z:(i:Int) < 3:=by omega
 clear G H z hn hb F I;unfold D';go_enter func88,ntmps88;go_wp2_with (go_at_call 129;refine(d' V).mono ?_;rintro r y ⟨rfl,q,rfl⟩);go_ret;exact⟨by first|rfl|simp[Q],q,rfl⟩
theorem uV' (F:Je w p g tk wel fen free sh st c) (G:Js a op go free sh pl) {i:Nat} (hi:i < 3) (j:Nat) (hj:j < (a.fl i).kept.length) (tick t:Nat) (V:(a.fl i).kept[j].2=t) (ah:t<=1000000000000) (ai:tick<=1000000000000):
  Calls prog 138 #[.pointer (some ⟨p,4+i * 6,none⟩), .int .i64 ((a.fl i).base+1+j:Nat), .int .i64 tick] w fun r w'=>r= .returned (.bool (Mq.due (a.fl i) tick j t))/\Below w.heap.size w w':=by
 obtain⟨n,hn⟩:=exq ((a.fl i).base+1+j);have M:=wJ' F.ks.blk (F.ks.am (i * 3+2) (by omega)) (F.ks.shs (i * 3+2) (by omega)) (G.hu i hi) (n:Int);rw[G.hd i hi n,show 4+(i * 3+2) * 2=4+i * 6+4 by omega]at M;have Q:=fun y (z:Below w.heap.size w y)=>wN' (F.below z).ks.blk (F.ks.am (i * 3+1) (by omega)) ((F.below z).ks.shs (i * 3+1) (by omega)) (G.si i hi) (n:Int);have Y:dd' (a.fl i) n=if t=0 then none else some (eT' t):=by unfold dd';rw[if_neg (by omega),show n - (a.fl i).base - 1=j by omega,z18 hj];simp only[V]
 rw[G.sn i hi n,Y,show 4+(i * 3+1) * 2=4+i * 6+2 by omega]at Q;have Z:Mq.due (a.fl i) tick j t=(!((a.fl i).held.contains n) && (t==0||decide (t+4<=tick))):=by unfold Mq.due;rw[<-hn]
 rw[Z,<-hn];obtain⟨ab,aa⟩:=exq ((a.fl i).held.contains n);rw[<-aa]at M ⊢;have O:=m' M;have H:=fun y z=>m' (Q y z);clear F G M Q Y Z aa V hn;cases ab
 ·by_cases h0:t=0
  ·simp only[h0,if_true,Option.getD_none,Option.isSome_none,tO']at H;go_enter func138,ntmps138;go_wp2_with (first|(go_at_call 190;refine(d' O).mono ?_;rintro r y ⟨rfl,z⟩)|(go_at_call 191;refine(d' (H _ z)).mono ?_;rintro r I ⟨rfl,J⟩;obtain rfl:y=I:=J.symm));go_ret;exact⟨by simp[h0],z⟩
  ·simp only[h0,if_false,Option.getD_some,Option.isSome_some,eT']at H;have aj:IntKind.i64.wrap ((tick:Int) - (t:Int))=(tick:Int) - (t:Int):=by rw[z36];omega
   by_cases h4:t+4<=tick
   ·have ac:(4:Int)<=(tick:Int) - (t:Int):=(by omega);go_enter func138,ntmps138;go_wp2_with (first|(go_at_call 190;refine(d' O).mono ?_;rintro r y ⟨rfl,z⟩)|(go_at_call 191;refine(d' (H _ z)).mono ?_;rintro r I ⟨rfl,J⟩;obtain rfl:y=I:=J.symm));go_ret;exact⟨by simp[h4],z⟩
   ·have ac:¬ (4:Int)<=(tick:Int) - (t:Int):=(by omega);go_enter func138,ntmps138;go_wp2_with (first|(go_at_call 190;refine(d' O).mono ?_;rintro r y ⟨rfl,z⟩)|(go_at_call 191;refine(d' (H _ z)).mono ?_;rintro r I ⟨rfl,J⟩;obtain rfl:y=I:=J.symm));go_ret;have ad:(t==0)=false:=(by simp[h0]);exact⟨by simp[h4,ad];omega,z⟩
 ·go_enter func138,ntmps138;go_wp2_with (go_at_call 190;refine(d' O).mono ?_;rintro r y ⟨rfl,z⟩);go_ret;exact⟨by simp,z⟩
theorem oG' (s:z10) (w:World) (hs:s.size<=1000):Calls prog 91 #[.string s] w fun r w'=>r= .returned (.string s)/\Below w.heap.size w w':=by
 have z:=m' (Tryz.stringslite_Clone s w (by omega));go_enter func91,ntmps91;go_wp2_with (go_at_call 134;refine(d' z).mono ?_;rintro r y ⟨rfl,F⟩);go_ret;exact⟨rfl,F⟩
end
variable{q r:Nat}{t:List Value}
theorem Qi.init (h:Qi p j 1 (.slice (some ⟨a,q,none⟩) (w+1) r) (w+1) t):Qi p j 1 (.slice (some ⟨a,q,none⟩) w r) w (t.take w):=by
 obtain⟨h1,⟨h2,_⟩|⟨g',I,J,z,h2,F,hn,G,hs,H⟩⟩:=h
 ·cases h2
 ·injection h2 with h2 _ h3;injection h2 with h2;injection h2 with h2 h4;subst h2 h3 h4;refine⟨by simp;omega, .inr ⟨a,q,r,z,rfl,F,by omega,G,hs,?_⟩⟩;rw[<-H,vL'];congr 1;omega
section
variable {w x y:World} {p:Nat} {g:Nat->Nat} {tk:Nat} {wel fen:Bool} {free:List Nat} {sh:Nat->List (Nat×Value)} {st st2:Mq.Stv} {c:Av} {a:Mq.Ag} {op:Nat} {pl:Nat->List Nat}
theorem ih' (z:Je w p g tk wel fen free sh st c) {F:Value} (k1:Vf y c.s c.dp st2 c.dlv F) (k2:Loc w c.duv F) (k3:Far (StU c.s c.dp c.dlv c.duv) w y) (hl:st2.dk.bytes.length=1664):Ja w y p g tk wel fen free sh st2 c:=by
 refine⟨{c with duv:=F},⟨z.ks.far k3 (fun k hk h=>z.sep k hk h),k1,z.rl.far k3 (fun g G h=>(z.sepr g G).2 h),hl⟩,k3.mono (fun k _ h=> .inr (.inl h)),?_,rfl,rfl⟩;have H:=k3.size;rintro k (hk|(rfl|rfl|hk|hk)|hk)
 ·exact .inl (.inl hk)
 ·exact .inl (.inr (.inl (.inl rfl)))
 ·exact .inl (.inr (.inl (.inr (.inl rfl))))
 ·exact .inl (.inr (.inl (.inr (.inr (.inl hk)))))
 ·rcases k2 with h|h|⟨g,h,G⟩
  ·rw[h]at hk;cases hk
  ·exact .inl (.inr (.inl (.inr (.inr (.inr (by rw[<-h];exact hk))))))
  ·rw[h]at hk;cases hk;exact .inr G
 ·exact .inl (.inr (.inr hk))
theorem eA' {z:World} {c1:Av} (F:Far (PaU p c) w z) (N:∀k,PaU p c1 k->PaU p c k\/w.heap.size<=k) (t1:c1.s=c.s) (t2:c1.rv=c.rv) (h:Ja z y p g tk wel fen free sh st c1):Ja w y p g tk wel fen free sh st c:=by
 obtain⟨G,h1,h2,h3,h4,h5⟩:=h;refine⟨G,h1,F.trans h2 (fun k hk hu=>(N k hu).elim id (fun h=>by omega)),fun k hk=>?_,h4.trans t1,h5.trans t2⟩;rcases h3 k hk with h|h
 ·exact N k h
 ·exact .inr (z26 F.size h)
theorem mK' {st:Mq.Stv} (n i q:Nat) (b:List UInt8) (hb:b.length<=20) (h:64 * (2+n)+64<=st.dk.bytes.length):(st.Qz n i q b).2.dk.bytes.length=st.dk.bytes.length:=by
 unfold Mq.Stv.Qz Mq.Dk.put;simp only
 split
 ·rfl
 ·split
  ·rfl
  ·simp only
   exact Mq.Jv (Mq.Jw _ _ (by rw[Mq.Zv];omega)) h
theorem lm' {st:Mq.Stv} (a b d:Nat) (z:st.head<=1) (h:128<=st.dk.bytes.length):(st.Qr a b d).2.dk.bytes.length=st.dk.bytes.length:=by
 unfold Mq.Stv.Qr Mq.Dk.put;simp only
 split
 ·rfl
 ·split
  ·rfl
  ·simp only
   exact Mq.Jv (Mq.Jw _ _ (by rw[Mq.Jo];omega)) (by omega)
theorem gS' {st:Mq.Stv} (a b d:Nat):(st.Qr a b d).2.Qe=st.Qe:=rfl
end
theorem yT':(prog.info? 3).map (·.size)=some 1:=by kernel_rfl
theorem oH' (S T:List Int) (w:World):∀ (z:List Nat),(∀i∈z,i < S.length/\i < T.length)->
  (Op.eqItems 9999 3 1 (S.map (Value.int .i64)).toArray (T.map (Value.int .i64)).toArray z).run prog w= .ok (z.all fun i=>S.getD i 0==T.getD i 0) w
 |[],_=>by simp[Op.eqItems]
 |i::z,h=>by
  have h0:=h i (.head _);have F:(S.map (Value.int .i64)).toArray[i]? =some (.int .i64 (S.getD i 0)):=by simp[h0.1,List.getD_eq_getElem?_getD]
  have b2:(T.map (Value.int .i64)).toArray[i]? =some (.int .i64 (T.getD i 0)):=by simp[h0.2,List.getD_eq_getElem?_getD]
  have G:=ye' (P:=prog) w (e:=3) (by kernel_rfl) (off:=i) F;have H:=ye' (P:=prog) w (e:=3) (by kernel_rfl) (off:=i) b2;have I:=run_equalIn_int (P:=prog) w 9998 3 .i64 .i64 (S.getD i 0) (T.getD i 0) underlying3;have ih:=oH' S T w z (fun j hj=>h j (.tail _ hj));simp only[Op.eqItems,Nat.mul_one,Sem.run_bind,G,H,I,Result.andThen_ok,List.all_cons];cases J:(S.getD i 0==T.getD i 0)
  ·simp
  ·simpa using ih
theorem kj' (a b c d e f:Int) (w:World):(Op.equalIn 10000 136 (.agg #[.int .i64 a, .int .i64 b, .int .i64 c]) (.agg #[.int .i64 d, .int .i64 e, .int .i64 f])).run prog w= .ok (a==d&& (b==e&&c==f)) w:=by
 obtain⟨i,hi⟩:∃i,prog.info? 3=some i:=by
  have:=yT';cases h:prog.info? 3 with
  |none=>rw[h]at this;cases this
  |some i=>exact⟨i,rfl⟩
 have z:prog.cellsOf 3=1:=by kernel_rfl
 have e:=oH' [a,b,c] [d,e,f] w (List.range 3) (fun i hi=>by have:=z87.1 hi;simp;omega);rw[<-z]at e;refine(zA' (P:=prog) w 9999 #[.int .i64 a, .int .i64 b, .int .i64 c] _ underlying136 hi).trans (e.trans ?_);simp[List.range_succ]
def zL' (B:Nat) (n:Nat) (v:Value) (w:World):Prop:=∃g,v= .slice (some ⟨g,0,none⟩) 1 1/\B<=g/\w.heap[g]? =some (.cells #[.int .i64 n] 3 (0,0))
theorem qD' (B n:Nat):bm' (zL' B n):=fun _ _ _ h hb=>by
 obtain⟨g,e,h1,h2⟩:=h;exact⟨g,e,h1,(hb.block g (z14 h2)).trans h2⟩
variable{D:Nat -> Prop}
theorem ii' (z:∀k,D k->k < w):bP' D (zL' w a):=fun _ _ _ h hF=>by
 obtain⟨g,e,h1,h2⟩:=h;exact⟨g,e,h1,hF.blk h2 (fun e=>by have:=z _ e;omega)⟩
def zM' (w0:World) (fv:Value) (l:List Nat) (v:Value) (w:World):Prop:=Qi w 3 1 v l.length (J' l)/\Loc w0 fv v/\w0.heap.size<=w.heap.size
theorem qE' (w0:World) (fv:Value) (l:List Nat):bm' (zM' w0 fv l):=fun _ _ _ h hb=>
 ⟨h.1.keep (fun g z=>hb.block g (h.1.lt g z)),h.2.1,z26 h.2.2 hb.size⟩
theorem oI' (G:∀F,D F->F < p.heap.size/\c.ownBlock≠some F):bP' D (zM' p c k):=fun _ _ _ h hF=>
 ⟨h.1.far hF (fun g z e=>by
  obtain⟨h1,h2⟩:=G g e;rcases h.2.1 with h3|h3|⟨F,h3,h4⟩
  ·rw[h3]at z;cases z
  ·rw[h3]at z;exact h2 z
  ·rw[h3]at z;cases z;omega),h.2.1,z26 h.2.2 hF.size⟩
def agD (a:Mq.Ag) (n:Nat->Nat) (j:Nat):Mq.Ag:={a with fl:=Mq.Xy a.fl n j}
theorem wO' (a:Mq.Ag) (n:Nat->Nat):agD a n 0=a:=by unfold agD;rw[Mq.dropTo_zero]
theorem ln' (a:Mq.Ag) (n:Nat->Nat) (j:Nat):(agD a n j).fl j=a.fl j:=Mq.Vu _ _ _
theorem wP' (a:Mq.Ag) (n:Nat->Nat) (j:Nat):agD a n (j+1)={agD a n j with fl:=Mq.upd (agD a n j).fl j (((agD a n j).fl j).drop (n j))}:=by
 unfold agD;simp only[Mq.dropTo_succ,Mq.Vu]
theorem uW' (a:Mq.Ag) (n:Nat->Nat):agD a n 3=a.drop n:=rfl
theorem uX' (h:∀i,i < 3->Q i=0):y.drop Q=y:=by
 unfold Mq.Ag.drop;have:Mq.Xy y.fl Q 3=y.fl:=by
  funext t;unfold Mq.Xy;split
  ·rename_i z;rw[h t z];simp[Mq.Jl.drop]
  ·rfl
 rw[this]
theorem lo':∀ (b:Nat) (k:List (z10×Nat)) (p:List Nat) (t:Nat),p.length=k.length->(z:t < k.length)->(eS' (aD' b k p))[t * 2]? =some (.string k[t].1)/\(eS' (aD' b k p))[t * 2+1]? =some (.int .i64 (p.getD t 0:Nat))
 |b,[],_,t,_,z=>by simp at z
 |b,_:: _,[],t,h,_=>by simp at h
 |b,x::r,q::F,0,_,_=>by rw[aQ'];exact⟨rfl,rfl⟩
 |b,x::r,q::F,t+1,h,z=>by have ih:=lo' (b+1) r F t (by simpa using h) (by simpa using z);rw[aQ'];have G:eS' ((b+1,cN' x.1 q)::aD' (b+1) r F)=[.string x.1, .int .i64 q]++eS' (aD' (b+1) r F):=rfl;rw[G,show(t+1) * 2=t * 2+2 by omega,show t * 2+2+1=t * 2+1+2 by omega,z29 (by simp),z29 (by simp)];simpa using ih
theorem lp':∀ (n b:Nat) (k:List (z10×Nat)) (p:List Nat),(aD' b k p).take n=aD' b (k.take n) (p.take n)
 |0,b,k,p=>by cases k <;> cases p <;> rfl
 |n+1,b,[],p=>by cases p <;> rfl
 |n+1,b,x::r,[]=>rfl
 |n+1,b,x::r,q::z=>by rw[aQ',wq',wq',wq',aQ',lp' n (b+1) r z]
variable{u O:World}
theorem oJ' (h:Vr p u w a j l c f d) (hb:Below u.heap.size u O):Vr p O w a j l c f d:=by
 obtain⟨⟨nv',S,e⟩,hF⟩:=h;exact⟨⟨nv',⟨(hb.block _ (z14 S.blk)).trans S.blk,S.c0,S.c1,S.sh.far (C' (E:=fun _=>False) hb) (fun _ _ h=>h),S.ty⟩,e⟩,hF.trans (C' hb) (fun _ _ h=>h)⟩
theorem wQ' (a b c d e f:Int) (w:World):(Op.equalIn 10000 98 (.agg #[.int .i64 a, .int .i64 b, .int .i64 c]) (.agg #[.int .i64 d, .int .i64 e, .int .i64 f])).run prog w= .ok (a==d&& (b==e&&c==f)) w:=by
 obtain⟨i,hi⟩:∃i,prog.info? 3=some i:=by
  have:=yT';cases h:prog.info? 3 with
  |none=>rw[h]at this;cases this
  |some i=>exact⟨i,rfl⟩
 have z:prog.cellsOf 3=1:=by kernel_rfl
 have e:=oH' [a,b,c] [d,e,f] w (List.range 3) (fun i hi=>by have:=z87.1 hi;simp;omega);rw[<-z]at e;refine(zA' (P:=prog) w 9999 #[.int .i64 a, .int .i64 b, .int .i64 c] _ underlying98 hi).trans (e.trans ?_);simp[List.range_succ]
theorem sU':(prog.info? 98).map (·.size)=some 3:=by kernel_rfl
def yU' (B:Nat) (v:Value) (z:World):Prop:=∃g,v= .pointer (some ⟨g,0,none⟩)/\B<=g/\z.heap[g]? =some (.cells #[.int .i64 0, .int .i64 0, .int .i64 0] 98 (0,0))
theorem oK' (B:Nat):bm' (yU' B):=fun _ _ _ h hb=>by
 obtain⟨g,e,h1,h2⟩:=h;exact⟨g,e,h1,(hb.block g (z14 h2)).trans h2⟩
theorem ym' (C:aW' w) (A:Nat->Nat->Prop) (z:World) (Y:Nat) (ai aj O:Value) (hs:List Nat) (cA cB i:Int) (s:z10) (kp cC cD cE cF:Int) (cG:z10) (q sv rp:Nat) (F:Mq.Ag) (r:ah') (lv hk:Nat->Value) (U:Nat->Prop) (left:Int)
  (bu:Qj A z Y ai aj O hs) (P:Jf C a z q sv rp F r lv hk U left) (cH:a < w) (cY:a<=2147483647) (ax:∀b o,A b o->b < z.heap.size/\¬Us Y O b/\¬ac' q rp lv hk U b) (bw:∀k,ac' q rp lv hk U k->¬Us Y O k) (bz:s.size<=140737488353980) (cZ:hs.length+12<=17592186044416):
  Calls prog 121 #[D' Y,D' q,ap' cA cB i s kp cC cD cE cF cG] z fun x w'=>x= .returned (.bool true)/\Xg C a A z w' Y q sv rp ai aj O (bu' F s.data.toList).2 r lv hk U (hs.length+12):=by
 obtain⟨G,hn⟩:∃G:Nat,s.size+8=G:=⟨_,rfl⟩;have bA:=fun z cI e h=>m' (pF' s z cI e G hn bz h);have ay:=m' P;have aU:=m' bu;have aV:=m' hn;have aW:¬G=0:=by omega
 have da:s.size<=G:=by omega
 have db:(s.size:Int)<=G:=by omega
 have bB:∀x:World,Below z.heap.size z x->x.cell? ⟨q,0,none⟩=some (D' sv):=fun x hb=>by rw[hb.cell (p:=⟨q,0,none⟩) (z14 P.blk)];exact y' (i:=0) P.blk
 have bC:=fun x (cJ:Below z.heap.size z x) (bs:Value) (hb:Qn x bs s.data.toList)=>m' (C.Qx bs s.data.toList (P.far (C' (E:=fun _=>False) cJ) (fun _ _ h=>h)).Xb P.Vw cH hb);have bD:=m' bB;have aL:=m' ax;have aX:=m' bw;obtain⟨k1,I,s1,J,M,aY⟩:=gx' s.data.toList;have aZ:=fun w'=>m' (jm' s w' (by omega));rw[aY]at aZ;have bE:=m' aY;clear P bu hn bB ax bw aY;unfold D' at *;unfold ap';go_enter func121,ntmps121;go_upto_region 1 with fail;go_upto_region 2 with (go_at_call 77;refine(d' (bA _ _ _ (by simp))).mono ?_;rintro dc w1 ⟨g,rfl,bF⟩;have Z:=m' bF;clear bF);refine bK'
  [Ep q 0,Ep q 0,Ep q 0,Ep sv 0,Ev (.slice (some ⟨g,0,none⟩) G G),Ep z.heap.size 3,Ev (.string s),Ei s.size,Ev (.slice (some ⟨g,0,none⟩) s.size G),Et,Et]
  [[1],[1019],[2020],[3021],[7],[5],[6024],[7025],[5023,8026],[4022,9027],[10028]] [20,21,22,23,24,25,26,27,28,29,9] [8,1,10,10,84]
  9 _ rfl ?_ ?_ ?_
 ·refine⟨?_,?_,?_,?_,?_,?_,?_,?_,?_,trivial⟩;all_goals
   intro b x hb az;have bG:=(d' bD) x ((d' Z).bel.trans (hb.mono (d' Z).bel.size));have aM:=(hb.cell (p:=⟨z.heap.size,3,none⟩) (by have:=(d' Z).lt;have:=(d' Z).glt;show z.heap.size < _;omega)).trans (d' Z).s3;clear hb;simp[I']at az;try go_simp
   try exact z11 _ _
  all_goals first|exact⟨rfl,z11 _ _⟩|skip
 ·intro f x Q;rfl
 ·intro f aa hb Q;simp only[ag',List.take]at Q;obtain⟨_,_,_,cK,_,_,_,_,cL,_⟩:=Q;simp only[O',cK,cL];go_simp;have ba:=m' ((d' Z).below hb);have ak:=m' ((d' Z).bel.trans (hb.mono (d' Z).bel.size));clear hb;refine(d' (bC aa (d' ak) _ ((d' ba).at (d' aV) bz))).mono ?_;rintro dd cM ⟨U',rfl,ax,hF,bH⟩;intro bI de;obtain⟨n,rfl⟩:∃n,bI=n+1:=⟨bI - 1,by omega⟩;refine aY' (i:=10) (by kernel_rfl) rfl rfl ?_;go_simp;refine cu' (by kernel_rfl) ?_;have bJ:Qh aa.heap.size cM (.slice none 0 0) [] [] U':=⟨rfl,z27 _ _ _ _,(fun j v hj=>by simp at hj),(fun i j u v hi=>by simp at hi),fun k hk=>by
   rcases hk with h|⟨j,hj,_⟩
   ·cases h
   ·simp at hj⟩
  have bK:=m' (ATL.start (d' ay) (d' ba) bJ ax hF bH);have df:=m' hF.size;clear bJ ax hF bH ba Z bA bC ak bD;obtain⟨dg,bb⟩:=exq ((bu' F s.data.toList).1);rw[<-bb];have ao:=m' bb;clear bb;go_upto_region 3 with fail;refine G' (fun x=>ATL C z x q sv rp F (bu' F s.data.toList).2 r lv hk U U' left s g G aa.heap.size (.slice none 0 0) [] []) (d' bK) ?_;clear bK;intro dh bc;have s3:=bc.s3;have bL:=m' bc;clear bc;go_upto_region 4 with (go_at_call 117;refine(d' (aZ _)).mono ?_;rintro di ab ⟨rfl,bM⟩;have ac:=m' ((d' bL).below bM);clear bM);have ap:Hid (z.heap.size<=ab.heap.size/\ab.heap.size≠g/\¬U' ab.heap.size/\ab.heap.size≠q):=
   ⟨(d' ac).far.size,by have:=(d' ac).gB;have:=(d' ac).bx;omega,fun h=>by have:=C.lt (d' ac).Xb _ h;omega,by have:=z14 (d' ac).blk;omega⟩
  refine G' (fun x=>ATL C z x q sv rp F (bu' F s.data.toList).2 r lv hk U U' left s g G aa.heap.size (.slice none 0 0) [] []/\Xx x ab.heap.size k1 I s1 J M/\ab.heap.size < x.heap.size)
   ⟨(d' ac).below ((z11 _ _).alloc (z13 _) _),dX' _ _ _ _ _ _ _,by simp⟩ ?_
  clear ac bL s3 aZ;generalize ab.heap.size=f at ap ⊢;rintro bN ⟨aN,bO,bP⟩;have s3:=aN.s3;have bQ:=m' (aN.bat (d' aV));have bR:=m' aN;have bS:=m' bO;have bd:=m' bP;clear aN bO bP;go_upto_region 5 with (go_at_call 79;refine(gf' _ _ s bN (d' bQ) (by omega)).mono ?_;rintro dj dl ⟨rfl,nq,rfl⟩);refine G' (fun x=>ATL C z x q sv rp F (bu' F s.data.toList).2 r lv hk U U' left s g G aa.heap.size (.slice none 0 0) [] []/\Xx x f k1 I s1 J M/\f < x.heap.size)
   ⟨(d' bR).below (z41 (z11 _ _) _),(d' bS).below (C:=bN.heap.size) (z41 (z11 _ _) _) (d' bd),d' bd⟩ ?_
  clear bR bS bd bQ s3;rintro aO ⟨aA,bT,bU⟩;have bV:=m' aA;have bW:=m' bT;have bX:=m' bU;have be:=m' (cQ' A (aO.alloc (.cells #[.slice none 0 0, .slice (some ⟨g,0,none⟩) G G, .slice none 0 0, .int .i64 0, .string ⟨#[]⟩, .string ⟨#[]⟩] 110)) Y aO.heap.size ai aj O (.slice none 0 0) (.slice (some ⟨g,0,none⟩) G G) (.slice none 0 0) hs [] [] (bO' s)
   (aA.world (d' aU) (d' aL) (d' aX) _) (z19 aO _) (z27 _ _ _ _) (by rw[aN',d' aV];exact aA.own.alloc _) (z27 _ _ _ _) (aA.keepA (d' aL) _) (by omega) (by rw[aN'];omega) (by simp) (by simp))
  unfold D' at be;clear aA bT bU;go_upto_region 6 with (go_at_call 76;refine(d' be).mono ?_;rintro dm aP ⟨rfl,bf,bY,aB,bZ,ca,cb⟩;have H:=m' (ATM.start (d' ay) (d' bV) (d' aU) (d' aL) (d' aX) (d' bW) (d' bX) (d' ap).1 (d' ap).2.1 (d' ap).2.2.1 bZ ca cb);have cN:=m' aB;clear bZ ca cb aB);clear be bV bW bX;generalize hA2:(fun b o=>(b < aP.heap.size/\¬Us Y bf b)/\(A b o\/b=aO.heap.size\/((Value.slice none 0 0).ownBlock=some b\/(Value.slice (some ⟨g,0,none⟩) G G).ownBlock=some b\/(Value.slice none 0 0).ownBlock=some b)\/ _))=cc at H;clear hA2;have hd:=m' (d' ay).dead;have c1:=y' (i:=1) (d' H).blk;have d4:=y' (i:=4) (d' H).ref.blk;simp[ai']at c1 d4;rw[d' hd]at d4;have bg:=m' (d' ay).Vw;have cd:∀ {y:World} {aQ aR:Nat->Value} {bh:Int} {aC:Mq.Ag},Jn a aC->ATM C A cc z y Y q sv rp ai aj O bf bY aC aC r lv aQ hk aR U U' bh aa.heap.size f k1 I s1 J M (.slice none 0 0) [] []->Xg C a A z y Y q sv rp ai aj O aC r lv hk U (hs.length+12):=by
   intro y aQ aR bh aC cO T;have dn:=T.wat.Vt;refine ATM.done T (d' hd) cO (T.wat.mono (fun b o h=>⟨⟨(T.a2 b o h).1,(T.a2 b o h).2.1⟩, .inl h⟩)) (Far.refl _ _) (.inr (.inl rfl)) (by have:=d' cN;omega) T.far.size ?_;rintro k (e|e) dq
   ·exact .inl e
   ·rcases T.loc with h|h|⟨g',h,dr⟩
    ·rw[h]at e;cases e
    ·exact .inr (h ▸ e)
    ·rw[h]at e;injection e with e;omega
  have bi:= @cd;clear cd;cases aD:Qb.reads s.data.toList
  ·have ad:bu' F s.data.toList=(1,F):=(by unfold bu';rw[aD];rfl);rw[ad]at H ao;have aS:=m' ad;have aE:=d' ao;simp only at aE;subst aE;clear ad ao;unfold D' at *;go_wp2;go_ret;rw[d' aS];exact⟨rfl,bi (d' bg) (by first|exact d' H|exact(d' H).below (z41 (z11 _ _) _))⟩
  ·have O:=d' bE;rw[jl' aD]at O;unfold jh' at O;simp only[Value.agg.injEq,Array.mk.injEq,List.cons.injEq,Value.int.injEq,Value.string.injEq,true_and,and_true]at O;obtain⟨bj,bk,bl,bm,bn⟩:=O;have aT:=aD;unfold Qb.reads at aT;rw[z58]at aT;have aF:=aT.2;rw[bj,bk,bl,bm,bn]at aF;clear aT;have ad:bu' F s.data.toList=(0,F.Qx k1 I s1 J M):=(by unfold bu';rw[aD,bj,bk,bl,bm,bn];rfl);rw[ad]at H ao;have aS:=m' ad;have aE:=d' ao;simp only at aE;subst aE;have ce:=m' (kP' (d' bg) k1 I s1 J M);have bo:=fun x (hb:Below aP.heap.size aP x)=>m' (fF' ((d' H).below hb).ref k1 I s1 J M (fun h=>by subst h;exact kJ' aF) (fun h=>by subst h;exact(kK' aF).2.2));have cf:=fun x aQ aR (R:Qk x rp F r aQ aR)=>m' (kL' R k1 I s1 J M aF (fun s hs=>by have:=(d' bg).sum s hs;omega));clear ad ao bj bk bl bm bn bE aD aF ay aU aL aX;have aG:=z14 (d' H).blk;have V:=(d' H).fl;obtain⟨aH,aI,b2,b3,aJ⟩:=(d' H).box;unfold D' at *;obtain⟨n0,aW⟩:=exq (F.Xr k1 I s1 J M 0);obtain⟨n1,cg⟩:=exq (F.Xr k1 I s1 J M 1);obtain⟨n2,aB⟩:=exq (F.Xr k1 I s1 J M 2);rw[<-aW,<-cg,<-aB]at bo;clear aW cg aB;have aq:=m' (z12 (fun k (h:aO' rp lv hk k)=>(d' H).ref.lt k h) (z12 (d' H).prlt (z12 (d' H).wat.Vt (z12 (fun b o h=>((d' H).a2 b o h).1) (z12 (d' H).fl (d' H).far.size)))));go_upto_region 14 with fail;refine ab'
    [Ep q 0,Ep q 0,Ep q 1,Ep rp 0,Ev (.agg #[.int .i64 k1, .int .i64 I, .int .i64 s1, .int .i64 J, .string M]),Ev (.agg #[.int .i64 n0, .int .i64 n1, .int .i64 n2]),yU' aP.heap.size,Et]
    [[1],[1084],[2085],[3086],[9],[4087,5088],[],[7014,6089]] [85,86,87,88,89,90,15,0] [14,1,69,6,23]
    7 _ rfl rfl ?_ ?_ (hst:=by repeat' (first|exact V' _|exact oK' _|exact aj'|exact trivial|apply z12))
   ·refine⟨?_,?_,?_,?_,?_,?_,?_,trivial⟩;all_goals
     intro b x hb az;have aM:=(hb.cell (p:=⟨q,1,none⟩) aG).trans c1;have z0:=(hb.cell (p:=⟨f,0,none⟩) V).trans aH;have cP:=(hb.cell (p:=⟨f,1,none⟩) V).trans aI;have cQ:=(hb.cell (p:=⟨f,2,none⟩) V).trans b2;have z3:=(hb.cell (p:=⟨f,3,none⟩) V).trans b3;have z4:=(hb.cell (p:=⟨f,4,none⟩) V).trans aJ;have ch:=bo x hb;have ci:=hb.size;clear hb;simp[I']at az;try go_simp
     try exact z11 _ _
    all_goals first
     |exact⟨rfl,z11 _ _⟩
     |(refine(d' ch).mono ?_;rintro e cR ⟨rfl,ak⟩;exact⟨rfl,ak⟩)
     |(refine(d' ch).mono ?_;rintro e cR ⟨rfl,ak⟩;exact⟨_,rfl,ak,rfl⟩)
     |exact⟨_,rfl,(z11 _ _).alloc (z13 _) _,_,rfl,ci,z19 x _⟩
     |exact⟨(z11 _ _).alloc (z13 _) _,_,rfl,ci,z19 x _⟩
     |skip
   ·intro f9 cj hb Q;simp only[ag',List.take]at Q;have h5:=Q.2.2.2.2.2.1;obtain⟨ah,ck,ds,bp⟩:=Q.2.2.2.2.2.2.1;have cl:=m' ((d' H).below hb);have cS:=hb.size;clear Q hb bo c1 d4 aH aI b2 b3 aJ aG V;simp only[O',h5,ck];refine iH' 98 (.tmp 14) (.tmp 89) rfl ah #[.int .i64 n0, .int .i64 n1, .int .i64 n2] rfl rfl 98 _ bp (by rw[sU'];rfl) rfl (by rw[z49];intro u hu;simp at hu;rcases hu with rfl|rfl|rfl <;> rfl) ?_;have dt:=(d' aq).2.2.2.2.2;have aK:=m' ((d' cl).any (bp' cj ah #[.int .i64 n0, .int .i64 n1, .int .i64 n2]) (fun k (e:k=ah)=>⟨by omega,fun h=>by have:=(d' aq).2.1 k h;omega,fun h=>by have:=(d' aq).2.2.1 k h;omega,fun h=>by
     rcases h with h|⟨j,hj,_⟩
     ·cases h
     ·simp at hj,fun o h=>by have:=(d' aq).2.2.2.1 k o h;omega,fun h=>by have:=(d' aq).2.2.2.2.1;omega⟩))
    have cm:Hid ((cj.setRow ah #[.int .i64 n0, .int .i64 n1, .int .i64 n2]).heap[ah]? =some (.cells #[.int .i64 n0, .int .i64 n1, .int .i64 n2] 98 (0,0))):=m' (z92 _ _ _ _ _ _ bp);clear cl bp ck h5;go_simp;go_upto_region 15 with fail;refine G' (fun x=>ATM C A cc z x Y q sv rp ai aj O bf bY F (F.Qx k1 I s1 J M) r lv lv hk hk U U' left aa.heap.size f k1 I s1 J M (.slice none 0 0) [] []/\x.heap[ah]? =some (.cells #[.int .i64 n0, .int .i64 n1, .int .i64 n2] 98 (0,0))) ⟨d' aK,d' cm⟩ ?_;clear aK cm cS;rintro du ⟨au,bq⟩;have aG:=z14 au.blk;have V:=au.fl;have cn:=z14 bq;have c1:=y' (i:=1) au.blk;simp[D']at c1;obtain⟨aH,aI,b2,b3,aJ⟩:=au.box;have aK:=m' au;have cp:=m' bq;clear au bq;refine ab'
     [Ep q 0,Ep q 0,Ep q 1,Ep rp 0,Ev (.agg #[.int .i64 k1, .int .i64 I, .int .i64 s1, .int .i64 J, .string M]),Et]
     [[1],[1090],[2091],[3092],[9],[4093,5094]] [91,92,93,94,95,96] [90,6,17]
     5 _ rfl rfl ?_ ?_
    ·refine⟨?_,?_,?_,?_,?_,trivial⟩;all_goals
      intro b x hb az;have aM:=(hb.cell (p:=⟨q,1,none⟩) aG).trans c1;have z0:=(hb.cell (p:=⟨f,0,none⟩) V).trans aH;have cP:=(hb.cell (p:=⟨f,1,none⟩) V).trans aI;have cQ:=(hb.cell (p:=⟨f,2,none⟩) V).trans b2;have z3:=(hb.cell (p:=⟨f,3,none⟩) V).trans b3;have z4:=(hb.cell (p:=⟨f,4,none⟩) V).trans aJ;clear hb;simp[I']at az;try go_simp
      try exact z11 _ _
     all_goals first
      |exact⟨rfl,z11 _ _⟩
      |exact⟨_,rfl,z11 _ _,rfl⟩
      |skip
    ·intro f10 cT hb Q;simp only[ag',List.take]at Q;have h3:=Q.2.2.2.1;have h4:=Q.2.2.2.2.1;have br:=m' ((d' aK).below hb);have cq:=m' ((hb.block _ cn).trans (d' cp));have cr:=m' (d' (cf cT _ _ (d' br).ref));clear Q hb c1 aH aI b2 b3 aJ aG V cn cf aK cp;simp only[O',h3,h4];go_simp;refine(d' cr).mono ?_;rintro dv dw ⟨rfl,cs,cu,cv,bt,cw⟩;obtain⟨cs,cu,cx⟩:=(d' br).step ⟨cs,cu,cv,bt,cw⟩;have cy:=bt.blk (d' cq) (fun h=>by have:=(d' aq).1 ah h;omega);obtain⟨bG,aM,cU⟩:=cC' cy;simp at bG aM cU;have av:=m' cx;have cV:=fun cW=>wQ' n0 n1 n2 0 0 0 cW;clear cx cv bt cw cy cr br cq h3 h4;obtain⟨cX,cz⟩:=exq (((n0:Int) ==0&& ((n1:Int) ==0&& (n2:Int) ==0)));rw[<-cz]at cV;clear cz;cases cX with
     |true=>go_wp2;go_ret;rw[d' aS];exact⟨rfl,bi (d' ce) (by first|exact d' av|exact(d' av).below (z41 (z11 _ _) _))⟩
     |false=>
      go_wp2_with (go_at_call 171;refine(jA' _ q sv rp left (by first|exact(d' av).blk|simpa using (d' av).blk)).mono ?_;rintro dx dy ⟨rfl,bh,rfl⟩)
      go_ret;rw[d' aS];exact⟨rfl,bi (d' ce) (by first|exact(d' av).wrote (d' ap).2.2.2 _|exact(ATM.below (d' av) (z41 (z11 _ _) _)).wrote (d' ap).2.2.2 _)⟩
theorem qF' (C:aW' w) (A:Nat->Nat->Prop) (z:World) (F:Nat) (M O G:Value) (hs:List Nat) (Q i:Int) (s:z10) (kp V Y Z aa:Int) (ab:z10) (q sv rp:Nat) (ac:Mq.Ag) (r:ah') (H hk:Nat->Value) (U:Nat->Prop) (left:Int)
  (ah:Qj A z F M O G hs) (P:Jf C a z q sv rp ac r H hk U left) (ao:a < w) (ap:a<=2147483647) (J:∀b o,A b o->b < z.heap.size/\¬Us F G b/\¬ac' q rp H hk U b) (ai:∀k,ac' q rp H hk U k->¬Us F G k) (aq:s.size<=140737488353980) (au:hs.length+12<=17592186044416):
  Calls prog 80 #[D' F,D' q,ap' 6 Q i s kp V Y Z aa ab] z fun x w'=>x= .returned (.bool true)/\Xg C a A z w' F q sv rp M O G (bu' ac s.data.toList).2 r H hk U (hs.length+12):=by
 have I:=m' ((z11 z.heap.size z).alloc (z13 _) (.cells #[.int .i64 6, .int .i64 Q, .int .i64 i, .string s, .int .u64 kp, .int .i64 V, .int .i64 Y, .int .i64 Z, .int .i64 aa, .string ab] 86));have aj:=P.far (C' (E:=fun _=>False) (d' I)) (fun _ _ h=>h);have ak:=ah.far (C' (E:=fun _=>False) (d' I)) (fun _ _ h=>h) (fun b o h=>⟨(J b o h).1,fun h=>h⟩);have av:=m' (ym' C A _ F M O G hs 6 Q i s kp V Y Z aa ab q sv rp ac r H hk U left ak aj ao ap (fun b o h=>⟨z20 (J b o h).1 (d' I).size,(J b o h).2⟩) ai aq au);clear aj ak P ah J ai;unfold D' ap' at *;go_enter func80,ntmps80;go_wp2_with (go_at_call 121;refine(d' av).mono ?_;rintro aJ aK ⟨rfl,ax⟩);go_ret;refine⟨rfl,?_⟩;obtain⟨ay,az,aA,aB,U',aC,aD,aE,aF,aG,u3,aH,aI⟩:=ax.all;have ad:=(d' I).size;exact⟨ay,az,aA,aB,U',aC,aD,aE.mono (fun b o h=>⟨h.1,h.2.1,h.2.2.1,h.2.2.2.imp id (fun h=>z26 ad h)⟩),aF,fun k h=>(aG k h).imp id (fun h=>z26 ad h),u3,(C' (E:=fun k=>ac' q rp H hk U k\/Us F G k) (d' I)).trans aH (fun _ _ h=>h),aI.mono ad⟩
theorem Xg.up {V F G N H:Nat} {C:aW' V} {A:Nat->Nat->Prop} {w y:World} {I q sv rp:Nat} {J M O:Value} {a':Mq.Ag} {r:ah'} {Q hk:Nat->Value} {U:Nat->Prop} (T:Xg C F A w y I q sv rp J M O a' r Q hk U N) (Y:F<=G) (Z:N<=H):Xg C G A w y I q sv rp J M O a' r Q hk U H:=by
 obtain⟨aa,ab,ac,ad,U',ah,ai,aj,z,ak,u3,ao,ap⟩:=T.all;exact⟨aa,ab,ac,ad,U',ah,z26 ai Z,aj,⟨z.blk,z.Xb,z.ref,z.dead,z.Vw.mono Y,z.qU,z.qR,z.UR⟩,ak,u3,ao,ap⟩
structure jZ' where
 q:Nat
 sv:Nat
 rp:Nat
 a:Mq.Sk
 r:am'
 lv:Nat->Value
 hk:Value
 U:Nat->Prop
 left:Int
def jZ'.In (z:jZ') (k:Nat):Prop:=aM' z.q z.rp z.lv z.hk z.U k
def jZ'.Is (C:cB') (x:World) (z:jZ'):Prop:=Zh C x z.q z.sv z.rp z.a z.r z.lv z.hk z.U z.left
def eB' (c:Int) (n:Nat):Nat:=((if c < 0 then -(c+1)else c) % (n:Int)).toNat
theorem ij' (c:Int) {n:Nat} (hn:0 < n):eB' c n < n:=by
 unfold eB';have h1:=Int.emod_lt_of_pos (if c < 0 then -(c+1)else c) (show(0:Int) < n by omega);have h2:=Int.emod_nonneg (if c < 0 then -(c+1)else c) (show(n:Int)≠0 by omega);omega
theorem qG' (c:Int) (n:Nat) (w:World) (G: -9223372036854775808<=c/\c<=9223372036854775807) (hn:0 < n) (H:n<=1000):
  Calls prog 81 #[.int .i64 c, .int .i64 n] w fun r w'=>r= .returned (.int .i64 (eB' c n))/\w'=w:=by
 have F:¬ (n:Int)=0:=by omega
 have I:¬ (n:Int)= -1:=by omega
 have hb:((n:Int) ==0)=false:=by simp;omega
 have z:Hid ((eB' c n:Int)=(if c < 0 then -(c+1)else c) % (n:Int)):=by have h2:=Int.emod_nonneg (if c < 0 then -(c+1)else c) F;unfold eB';show _= _;omega
 generalize eB' c n=j at z;obtain⟨d,hd⟩:=exq (if c < 0 then -(c+1)else c);rw[<-hd]at z;have hd0:0<=d/\d<=9223372036854775807:=by rw[hd];split <;> omega
 by_cases h:c < 0
 ·rw[if_pos h]at hd;have J:IntKind.i64.wrap (c+1)=c+1:=by rw[z36];omega
  have M:IntKind.i64.wrap (-(c+1))=d:=by rw[z36];omega
  clear hd;go_enter func81,ntmps81;go_wp2;go_ret;exact⟨dB' (d' z).symm,rfl⟩
 ·rw[if_neg h]at hd;subst hd;go_enter func81,ntmps81;go_wp2;go_ret;exact⟨dB' (d' z).symm,rfl⟩
variable{bK:Bool}
theorem qH' (h:l[w]?.getD undef= .bool bK):l[w]? =some (.bool bK):=by
 cases z:l[w]? with
 |none=>rw[z]at h;simp[undef]at h
 |some v=>rw[z]at h;simp at h;rw[h]
structure Vk where
 q:Nat
 sv:Nat
 rp:Nat
 a:Mq.Ag
 r:ah'
 lv:Nat->Value
 hk:Nat->Value
 U:Nat->Prop
 left:Int
def Vk.In (z:Vk) (k:Nat):Prop:=ac' z.q z.rp z.lv z.hk z.U k
def Vk.Is {F:Nat} (C:aW' F) (n:Nat) (x:World) (z:Vk):Prop:=Jf C n x z.q z.sv z.rp z.a z.r z.lv z.hk z.U z.left
structure ax' where
 q:Nat
 In:Nat->Prop
 Is:World->Prop
 lt:∀ {x:World},Is x->∀k,In k->k < x.heap.size
 far:∀ {x y:World} {E:Nat->Prop},Is x->Far E x y->(∀k,In k->¬E k)->Is y
structure Qs (B n:Nat) (A:Nat->Nat->Prop) (x:World) (wb:Nat) (asv ssv hv:Value) (hs:List Nat) (la ls:List ax'):Prop where
 hn:hs.length<=n
 wat:Qj A x wb asv ssv hv hs
 Yh:x.ownsRow 0 115 1 asv la.length (la.map fun it=>D' it.q)
 Yg:x.ownsRow 0 117 1 ssv ls.length (ls.map fun it=>D' it.q)
 sixA:la.length<=6
 sixS:ls.length<=6
 each:∀ (i:Nat) (u:ax'),(la++ls)[i]? =some u->u.Is x
 apart:∀ (i j:Nat) (u v:ax'),(la++ls)[i]? =some u->(la++ls)[j]? =some v->i≠j->∀k,u.In k->¬v.In k
 us:∀ (i:Nat) (u:ax'),(la++ls)[i]? =some u->∀k,u.In k->B<=k/\¬Us wb hv k/\asv.ownBlock≠some k/\ssv.ownBlock≠some k
 asu:∀k,asv.ownBlock=some k->B<=k/\¬Us wb hv k/\ssv.ownBlock≠some k
 ssu:∀k,ssv.ownBlock=some k->B<=k/\¬Us wb hv k
 usB:∀k,Us wb hv k->B<=k
 bx:B<=x.heap.size
 a2:∀b o,A b o->b < x.heap.size/\¬Us wb hv b/\asv.ownBlock≠some b/\ssv.ownBlock≠some b/\∀ (i:Nat) (u:ax'),(la++ls)[i]? =some u->¬u.In b
def fX' (D z:Nat) (F G H:Value) (l:List ax'):Prop:=∀k,(Us z H k\/F.ownBlock=some k\/G.ownBlock=some k\/∃ (i:Nat) (u:ax'),l[i]? =some u/\u.In k)->k < D
section
variable {B n:Nat} {A:Nat->Nat->Prop} {x y:World} {wb:Nat} {asv ssv hv:Value} {hs:List Nat} {la ls:List ax'}
theorem Qs.bnd (S:Qs B n A x wb asv ssv hv hs la ls):fX' x.heap.size wb asv ssv hv (la++ls):=by
 rintro k (h|h|h|⟨i,u,hu,h⟩)
 ·exact S.wat.Vt k h
 ·exact(z15 S.Yh k h).2
 ·exact(z15 S.Yg k h).2
 ·exact u.lt (S.each i u hu) k h
theorem Qs.below (S:Qs B n A x wb asv ssv hv hs la ls) (hb:Below x.heap.size x y):Qs B n A y wb asv ssv hv hs la ls:=by
 have z:Far (fun _=>False) x y:=C' hb;exact⟨S.hn,S.wat.far z (fun _ _ h=>h) (fun b o h=>⟨(S.a2 b o h).1,fun h=>h⟩),z.own S.Yh (fun _ _ h=>h),z.own S.Yg (fun _ _ h=>h),S.sixA,S.sixS,fun i u hu=>u.far (S.each i u hu) z (fun _ _ h=>h),S.apart,S.us,S.asu,S.ssu,S.usB,z26 S.bx hb.size,fun b o h=>⟨z20 (S.a2 b o h).1 hb.size,(S.a2 b o h).2⟩⟩
end
structure lq' (A:Nat->Nat->Prop) (x y:World) (wb:Nat) (asv ssv hv:Value) (t t':ax') (N:Nat):Prop where
 all:∃ (hv3:Value) (hs3:List Nat),hs3.length<=N/\Qj (fun b o=>b < y.heap.size/\¬Us wb hv3 b/\¬t'.In b/\(A b o\/x.heap.size<=b)) y wb asv ssv hv3 hs3/\t'.Is y/\
  (∀k,t'.In k->t.In k\/x.heap.size<=k)/\(∀k,t'.In k->¬Us wb hv3 k)/\Far (fun k=>t.In k\/Us wb hv k) x y/\Loc x hv hv3
 same:t'.q=t.q
section
variable {B n N:Nat} {A:Nat->Nat->Prop} {x y:World} {wb:Nat} {asv ssv hv:Value} {hs:List Nat} {la ls la' ls':List ax'}
theorem Qs.step (S:Qs B n A x wb asv ssv hv hs la ls) (i:Nat) (t ad:ax') (hi:(la++ls)[i]? =some t) (ao:fX' w wb asv ssv hv (la++ls)) (T:lq' A x y wb asv ssv hv t ad N)
  (ah:la'.length=la.length) (ai:ls'.length=ls.length) (ap:la'.map (fun G=>D' G.q)=la.map fun G=>D' G.q) (aq:ls'.map (fun G=>D' G.q)=ls.map fun G=>D' G.q)
  (H:∀ (j:Nat) (u:ax'),(la'++ls')[j]? =some u->(j=i/\u=ad)\/(j≠i/\(la++ls)[j]? =some u)):
  ∃au O av,Qs B N au y wb asv ssv O av la' ls'/\Far (fun k=>B<=k/\k < w) x y:=by
 obtain⟨aj,ax,ay,az,aA,J,u3,M,ak⟩:=T.all;have Z:=fun k h=>(z15 S.Yh k h).2;have aa:=fun k h=>(z15 S.Yg k h).2;have Q:∀ (j:Nat) (u:ax'),(la++ls)[j]? =some u->∀k,u.In k->k < x.heap.size:=fun j u hu=>u.lt (S.each j u hu);have aB:∀k,(t.In k\/Us wb hv k)->B<=k:=fun k h=>h.elim (fun h=>(S.us i t hi k h).1) (S.usB k);have ab:∀k,k < x.heap.size->¬Us wb hv k->¬Us wb aj k:=by
  rintro k hk h (e|e)
  ·exact h (.inl e)
  ·rcases ak with z|z|⟨g',z,I⟩
   ·rw[z]at e;cases e
   ·exact h (.inr (z ▸ e))
   ·rw[z]at e;injection e with e;omega
 have aC:∀ (j:Nat) (u:ax'),j≠i->(la++ls)[j]? =some u->∀k,u.In k->¬ (t.In k\/Us wb hv k):=by
  rintro j u hj hu k hk (e|e)
  ·exact S.apart j i u t hu hi hj k hk e
  ·exact(S.us j u hu k hk).2.1 e
 refine⟨_,aj,ax,⟨ay,az,?_,?_,by rw[ah];exact S.sixA,by rw[ai];exact S.sixS,?_,?_,?_,?_,?_,?_,z26 S.bx M.size,?_⟩,M.mono (fun k _ h=>⟨aB k h,ao k (h.elim (fun h=> .inr (.inr (.inr ⟨i,t,hi,h⟩))) .inl)⟩)⟩
 ·rw[ah,ap];refine M.own S.Yh (fun g F=>?_);rintro(e|e)
  ·exact(S.us i t hi g e).2.2.1 F
  ·exact(S.asu g F).2.1 e
 ·rw[ai,aq];refine M.own S.Yg (fun g F=>?_);rintro(e|e)
  ·exact(S.us i t hi g e).2.2.2 F
  ·exact(S.ssu g F).2 e
 ·intro j u hu;rcases H j u hu with ⟨rfl,rfl⟩|⟨hj,hu⟩
  ·exact aA
  ·exact u.far (S.each j u hu) M (aC j u hj hu)
 ·intro j k u v hu O V g F I;rcases H j u hu with ⟨rfl,rfl⟩|⟨hj,ac⟩
  ·rcases H k v O with ⟨rfl,rfl⟩|⟨hk,Y⟩
   ·exact V rfl
   ·rcases J g F with h|h
    ·exact S.apart j k t v hi Y V g h I
    ·have:=Q k v Y g I;omega
  ·rcases H k v O with ⟨rfl,rfl⟩|⟨hk,Y⟩
   ·rcases J g I with h|h
    ·exact S.apart j k u t ac hi V g F h
    ·have:=Q j u ac g F;omega
   ·exact S.apart j k u v ac Y V g F I
 ·intro j u hu k hk;rcases H j u hu with ⟨rfl,rfl⟩|⟨hj,hu⟩
  ·refine⟨?_,u3 k hk,fun e=>?_,fun e=>?_⟩
   ·rcases J k hk with h|h
    ·exact(S.us j t hi k h).1
    ·have:=S.bx;omega
   ·rcases J k hk with h|h
    ·exact(S.us j t hi k h).2.2.1 e
    ·have:=Z k e;omega
   ·rcases J k hk with h|h
    ·exact(S.us j t hi k h).2.2.2 e
    ·have:=aa k e;omega
  ·have h:=S.us j u hu k hk;exact⟨h.1,ab k (Q j u hu k hk) h.2.1,h.2.2⟩
 ·intro k h;have h1:=S.asu k h;exact⟨h1.1,ab k (Z k h) h1.2.1,h1.2.2⟩
 ·intro k h;have h1:=S.ssu k h;exact⟨h1.1,ab k (aa k h) h1.2⟩
 ·rintro k (e|e)
  ·exact S.usB k (.inl e)
  ·rcases ak with z|z|⟨g',z,I⟩
   ·rw[z]at e;cases e
   ·exact S.usB k (.inr (z ▸ e))
   ·rw[z]at e;injection e with e;have:=S.bx;omega
 ·rintro b o ⟨h1,h2,h3,h4⟩;refine⟨h1,h2,fun e=>?_,fun e=>?_,fun j u hu hb=>?_⟩
  ·rcases h4 with h4|h4
   ·exact(S.a2 b o h4).2.2.1 e
   ·have:=Z b e;omega
  ·rcases h4 with h4|h4
   ·exact(S.a2 b o h4).2.2.2.1 e
   ·have:=aa b e;omega
  ·rcases H j u hu with ⟨rfl,rfl⟩|⟨hj,hu⟩
   ·exact h3 hb
   ·rcases h4 with h4|h4
    ·exact(S.a2 b o h4).2.2.2.2 j u hu hb
    ·have:=Q j u hu b hb;omega
end
def lr' (z:Nat) (F G H:Value) (l:List ax') (k:Nat):Prop:=¬Us z H k/\F.ownBlock≠some k/\G.ownBlock≠some k/\∀ (i:Nat) (u:ax'),l[i]? =some u->¬u.In k
def gs' (A:Nat->Nat->Prop) (z:Nat) (F G H:Value) (l:List ax') (k:Nat):Prop:=lr' z F G H l k/\∀o,¬A k o
section
variable {B n:Nat} {A:Nat->Nat->Prop} {x y:World} {wb:Nat} {asv ssv hv:Value} {hs:List Nat} {la ls la' ls':List ax'}
theorem Qs.moreCore (S:Qs B n A x wb asv ssv hv hs la ls) (z:ax') (p:Nat) (I:Nat->Nat)
  (G:∀ (j:Nat) (u:ax'),(la'++ls')[j]? =some u->(j=p/\u=z)\/(j≠p/\(la++ls)[I j]? =some u)) (ah:∀j k,j≠p->k≠p->j≠k->I j≠I k)
  (hF:Far (fun k=>k=wb\/asv.ownBlock=some k\/ssv.ownBlock=some k) x y) (ai:y.heap[wb]? =some (.cells #[c,f,hv] 83 (0,0)))
  (aj:y.ownsRow 0 115 1 c la'.length (la'.map fun z=>D' z.q)) (ak:y.ownsRow 0 117 1 f ls'.length (ls'.map fun z=>D' z.q)) (ao:la'.length<=6) (ap:ls'.length<=6)
  (J:∀g,c.ownBlock=some g->asv.ownBlock=some g\/x.heap.size<=g) (M:∀g,f.ownBlock=some g->ssv.ownBlock=some g\/x.heap.size<=g) (Y:∀g,c.ownBlock=some g->f.ownBlock≠some g)
  (aq:z.Is y) (H:∀k,z.In k->(B<=k/\gs' A wb asv ssv hv (la++ls) k)/\c.ownBlock≠some k/\f.ownBlock≠some k):Qs B n A y wb c f hv hs la' ls':=by
 have ay:=fun k h=>(z15 S.Yh k h).2;have az:=fun k h=>(z15 S.Yg k h).2;have Z:∀ (j:Nat) (u:ax'),(la++ls)[j]? =some u->∀k,u.In k->k < x.heap.size:=fun j u hu=>u.lt (S.each j u hu);have aa:=S.wat.Vt;have au:∀ (j:Nat) (u:ax'),(la++ls)[j]? =some u->∀k,u.In k->¬ (k=wb\/asv.ownBlock=some k\/ssv.ownBlock=some k):=by
  rintro j u hu k hk (e|e|e)
  ·exact(S.us j u hu k hk).2.1 (.inl e)
  ·exact(S.us j u hu k hk).2.2.1 e
  ·exact(S.us j u hu k hk).2.2.2 e
 have av:∀g,hv.ownBlock=some g->¬ (g=wb\/asv.ownBlock=some g\/ssv.ownBlock=some g):=by
  rintro g F (e|e|e)
  ·exact av' S.wat.row S.wat.blk (by decide) (by rw[<-e];exact F)
  ·exact(S.asu g e).2.1 (.inr F)
  ·exact(S.ssu g e).2 (.inr F)
 refine⟨S.hn,⟨ai,hF.own S.wat.row av,fun p ax=>(S.wat.all p ax).keep (fun b o h=>z39 (hF.rest b (S.a2 b o h).1 (fun e=>?_)))⟩,aj,ak,ao,ap,?_,?_,?_,?_,?_,S.usB,z26 S.bx hF.size,?_⟩
 ·rcases e with e|e|e
  ·exact(S.a2 b o h).2.1 (.inl e)
  ·exact(S.a2 b o h).2.2.1 e
  ·exact(S.a2 b o h).2.2.2.1 e
 ·intro j u hu;rcases G j u hu with ⟨rfl,rfl⟩|⟨_,hu⟩
  ·exact aq
  ·exact u.far (S.each _ u hu) hF (au _ u hu)
 ·intro j k u v hu ab ac g F O;rcases G j u hu with ⟨rfl,rfl⟩|⟨hj,ad⟩
  ·rcases G k v ab with ⟨rfl,rfl⟩|⟨hk,Q⟩
   ·exact ac rfl
   ·exact(H g F).1.2.1.2.2.2 _ v Q O
  ·rcases G k v ab with ⟨rfl,rfl⟩|⟨hk,Q⟩
   ·exact(H g O).1.2.1.2.2.2 _ u ad F
   ·exact S.apart _ _ u v ad Q (ah j k hj hk ac) g F O
 ·intro j u hu k hk;rcases G j u hu with ⟨rfl,rfl⟩|⟨_,hu⟩
  ·have h:=H k hk;exact⟨h.1.1,h.1.2.1.1,h.2⟩
  ·have h:=S.us _ u hu k hk;refine⟨h.1,h.2.1,fun e=>?_,fun e=>?_⟩
   ·rcases J k e with e|e
    ·exact h.2.2.1 e
    ·have:=Z _ u hu k hk;omega
   ·rcases M k e with e|e
    ·exact h.2.2.2 e
    ·have:=Z _ u hu k hk;omega
 ·intro k h;rcases J k h with e|e
  ·exact⟨(S.asu k e).1,(S.asu k e).2.1,Y k h⟩
  ·exact⟨z26 S.bx e,fun V=>by have:=aa k V;omega,Y k h⟩
 ·intro k h;rcases M k h with e|e
  ·exact S.ssu k e
  ·exact⟨z26 S.bx e,fun V=>by have:=aa k V;omega⟩
 ·rintro b o h;have h1:=S.a2 b o h;refine⟨z20 h1.1 hF.size,h1.2.1,fun e=>?_,fun e=>?_,fun j u hu hb=>?_⟩
  ·rcases J b e with e|e
   ·exact h1.2.2.1 e
   ·omega
  ·rcases M b e with e|e
   ·exact h1.2.2.2.1 e
   ·omega
  ·rcases G j u hu with ⟨rfl,rfl⟩|⟨_,hu⟩
   ·exact(H b hb).1.2.2 o h
   ·exact h1.2.2.2.2 _ u hu hb
end
def jZ'.Vh (C:cB') (z:jZ'):ax':=⟨z.q,z.In,z.Is C,fun h=>Zh.lt h,fun h F G=>Zh.far h F G⟩
def Vk.Vh {F:Nat} (C:aW' F) (n:Nat) (z:Vk):ax':=⟨z.q,z.In,z.Is C n,fun h=>Jf.lt h,fun h G H=>Jf.far h G H⟩
theorem wR':(prog.info? 117).map (fun i=>(i.zero,i.size,i.bytes))=some (some (.pointer none),1,8):=by kernel_rfl
theorem qI' (n:Nat) (hn:n<=10000) (w:World):
  Calls prog 84 #[.int .i64 n] w fun r w'=>r= .returned (.string ⟨(List.replicate n 0).toArray⟩)/\Below w.heap.size w w':=by
 go_enter func84,ntmps84;go_wp2_with (at_make;refine hu' rfl _ _ rfl w.heap.size _ _ _ _ n rfl rfl rfl rfl (by omega) (z13 _) ?_;intro w1 z F;have G:=m' (Y' (B:=w.heap.size) F (z13 _) (by simp));have H:=(bo' (A:=fun _ _=>True) (l:=List.replicate n 0) (by unfold Qt at z;rw[Z'];rw[z55]at z ⊢;exact eh' z) (fun _ _ _ _=>trivial)).str;clear z F);go_ret;exact⟨rfl,d' G⟩
def sk0:Mq.Sk:={Qa:=0,Qc:=fun _=>[],held:=[]}
def r0:am':={dead:=false,next:=0,inn:=0,more:= .slice none 0 0}
theorem wS' (w:World) (p:Nat) (h:w.heap[p]? =some (.cells #[.int .i64 0, .bool false, .slice none 0 0, .slice none 0 0, .slice none 0 0, .slice none 0 0, .int .i64 0, .int .i64 0, .slice none 0 0] 132 (0,0))):Jp w p sk0 r0 (fun _=> .slice none 0 0) (.slice none 0 0):=
 ⟨h,fun _ _=>bb' _ _ _,bb' _ _ _,fun _ _ _ _ _ _ h=>by(cases h),by simp[sk0],by simp[sk0,Mq.Sk.count],by simp[sk0],by simp[sk0]⟩
def ds':Array Value:= #[.int .i64 0, .bool false, .slice none 0 0, .slice none 0 0, .slice none 0 0, .slice none 0 0, .int .i64 0, .int .i64 0, .slice none 0 0]
section
variable {w:World} {p:Nat} {g:Nat->Nat} {free:List Nat} {sh:Nat->List (Nat×Value)} {st:Mq.Stv} {c:Av} {a:Mq.Ag} {pl:Nat->List Nat}
theorem sV' (z:Je w p g a.Qf a.Qd a.fenced free sh st c) (X:Nat->Nat) (H:∀i,i < 3->X i=g i):
  Calls prog 152 #[D' p, .agg #[.int .i64 (X 0), .int .i64 (X 1), .int .i64 (X 2)]] w fun r F=>r= .returned (.int .i64 0)/\Below w.heap.size w F:=by
 have g0:w.cell? ⟨p,1,none⟩=some (.int .i64 (X 0)):=by rw[y' z.ks.blk,H 0 (by omega)];exact z.ks.ag 0 (by omega)
 have g1:w.cell? ⟨p,2,none⟩=some (.int .i64 (X 1)):=by rw[y' z.ks.blk,H 1 (by omega)];exact z.ks.ag 1 (by omega)
 have g2:w.cell? ⟨p,3,none⟩=some (.int .i64 (X 2)):=by rw[y' z.ks.blk,H 2 (by omega)];exact z.ks.ag 2 (by omega)
 have I:=z14 z.ks.blk;generalize X 0=J at *;generalize X 1=M at *;generalize X 2=O at *;have aa:∀F:World,(Op.equalIn 10000 136 (.agg #[.int .i64 J, .int .i64 M, .int .i64 O]) (.agg #[.int .i64 J, .int .i64 M, .int .i64 O])).run prog F= .ok true F:=fun F=>by rw[kj'];simp
 clear z H;unfold D';go_enter func152,ntmps152;go_upto_region 1 with fail;refine G' (fun x=>x.heap[w.heap.size]? =some (.cells #[.int .i64 J, .int .i64 M, .int .i64 O] 136 (0,0))/\Below w.heap.size w x) ⟨z19 _ _,(z11 _ _).alloc (z13 _) _⟩ ?_;rintro x ⟨hb,G⟩;obtain⟨V,Y,Z⟩:=cC' hb;simp at V Y Z;have z0:=(G.cell (p:=⟨p,1,none⟩) I).trans g0;have ab:=(G.cell (p:=⟨p,2,none⟩) I).trans g1;have ac:=(G.cell (p:=⟨p,3,none⟩) I).trans g2;have Q:=m' G;clear hb G g0 g1 g2;go_quiet (fail);go_wp2;go_ret;exact⟨rfl,(d' Q).trans (z41 (z11 _ _) _ |>.mono (d' Q).size)⟩
theorem qJ' {tk:Nat} {F G:Bool} (z:Je w p g tk F G free sh st c) (X:Nat->Nat):
  Ja w (((w.setCell ⟨p,1,none⟩ (.int .i64 (X 0))).setCell ⟨p,2,none⟩ (.int .i64 (X 1))).setCell ⟨p,3,none⟩ (.int .i64 (X 2))) p X tk F G free sh st c:=by
 have H:∀ {w:World} {c:Av} {g:Nat->Nat} (i:Nat) (hi:i < 3) (v:Nat),Je w p g tk F G free sh st c->Ja w (w.setCell ⟨p,1+i,none⟩ (.int .i64 v)) p (fun t=>if t=i then v else g t) tk F G free sh st c:=by
  intro w c g i hi v z;have J:=z.ks.sz;refine ez' z (1+i) (.int .i64 v) (.inl (by omega)) (fun j hj=>?_) ?_ ?_ ?_
  ·by_cases e:j=i
   ·subst e;have:1+j < c.arr.size:=by omega
    simp[this]
   ·rw[z16 (by omega),z.ks.ag j hj,if_neg e]
  ·rw[z16 (by omega)];exact z.ks.at'
  ·rw[z16 (by omega)];exact z.ks.aw
  ·rw[z16 (by omega)];exact z.ks.ae
 have h1:=H 0 (by omega) (X 0) z;have h2:=h1.trans (fun I h=>H 1 (by omega) (X 1) h);have h3:=h2.trans (fun I h=>H 2 (by omega) (X 2) h);obtain⟨I,h,r⟩:=h3;refine⟨I,⟨{h.ks with ag:=fun i hi=>?_},h.stt,h.rl,h.len⟩,r⟩;rw[h.ks.ag i hi];obtain rfl|rfl|rfl:i=0\/i=1\/i=2:=by omega
 all_goals simp
end
section
variable {w x:World} {p:Nat} {g:Nat->Nat} {tk:Nat} {wel fen:Bool} {free:List Nat} {sh:Nat->List (Nat×Value)} {st:Mq.Stv} {c:Av} {a:Mq.Ag} {pl:Nat->List Nat}
theorem sW' (z:Je w p g tk wel fen free sh st c) (v:Bool):Ja w (w.setCell ⟨p,25,none⟩ (.bool v)) p g tk wel v free sh st c:=by
 have F:=z.ks.sz;refine ez' z 25 (.bool v) (.inr (by omega)) (fun j hj=>?_) ?_ ?_ ?_
 ·rw[z16 (by omega)];exact z.ks.ag j hj
 ·rw[z16 (by omega)];exact z.ks.at'
 ·rw[z16 (by omega)];exact z.ks.aw
 ·have:25 < c.arr.size:=by omega
  simp[this]
theorem lt' (z:Je w p g tk wel fen free sh st c) (v:Bool):Ja w (w.setCell ⟨p,24,none⟩ (.bool v)) p g tk v fen free sh st c:=by
 have F:=z.ks.sz;refine ez' z 24 (.bool v) (.inr (by omega)) (fun j hj=>?_) ?_ ?_ ?_
 ·rw[z16 (by omega)];exact z.ks.ag j hj
 ·rw[z16 (by omega)];exact z.ks.at'
 ·have:24 < c.arr.size:=by omega
  simp[this]
 ·rw[z16 (by omega)];exact z.ks.ae
theorem fY' (z:Je w p g tk wel fen free sh st c) (v:Nat):Ja w (w.setCell ⟨p,23,none⟩ (.int .i64 v)) p g v wel fen free sh st c:=by
 have F:=z.ks.sz;refine ez' z 23 (.int .i64 v) (.inr (by omega)) (fun j hj=>?_) ?_ ?_ ?_
 ·rw[z16 (by omega)];exact z.ks.ag j hj
 ·have:23 < c.arr.size:=by omega
  simp[this]
 ·rw[z16 (by omega)];exact z.ks.aw
 ·rw[z16 (by omega)];exact z.ks.ae
theorem Js.flags {op:Nat} (z:Js a op g free sh pl) (tk:Nat) (wel fen:Bool):Js {a with Qf:=tk,Qd:=wel,fenced:=fen} op g free sh pl:=
 ⟨z.ep,z.bs,z.pn,z.kp,z.sn,z.si,z.hd,z.hu,z.hl,z.nd,z.lt,z.sum⟩
end
def clr (sh:Nat->List (Nat×Value)) (j:Nat) (t:Nat):List (Nat×Value):=if t % 3≠0/\t < j * 3 then []else sh t
theorem wT' (sh:Nat->List (Nat×Value)):clr sh 0=sh:=by funext t;unfold clr;rw[if_neg (by omega)]
theorem wU' (sh:Nat->List (Nat×Value)) (j:Nat):(fun t=>if t=j * 3+2 then([]:List (Nat×Value))else(fun t=>if t=j * 3+1 then []else clr sh j t) t)=clr sh (j+1):=by
 funext t;unfold clr;by_cases h1:t=j * 3+2
 ·rw[if_pos h1,if_pos (by omega)]
 ·rw[if_neg h1];show(if t=j * 3+1 then([]:List (Nat×Value))else _)= _;by_cases h2:t=j * 3+1
  ·rw[if_pos h2,if_pos (by omega)]
  ·rw[if_neg h2];by_cases h3:t % 3≠0/\t < j * 3
   ·rw[if_pos h3,if_pos (by omega)]
   ·rw[if_neg h3,if_neg (by omega)]
section
variable {w:World} {p:Nat} {g:Nat->Nat} {free:List Nat} {sh:Nat->List (Nat×Value)} {st:Mq.Stv} {c:Av} {a:Mq.Ag} {op:Nat} {pl:Nat->List Nat}
theorem sX' (z:Js a op g free sh pl):Js {a with Qd:=true,fl:=Mq.fresh a.fl 3} op g free (clr sh 3) pl:=by
 have F:∀i,i < 3->Mq.fresh a.fl 3 i={a.fl i with kept:=(a.fl i).kept.map fun r=>(r.1,0),held:=[]}:=fun i hi=>by unfold Mq.fresh;rw[if_pos hi]
 refine⟨z.ep,fun i hi=>?_,fun i hi=>?_,fun i hi=>?_,fun i hi n=>?_,fun i hi=>?_,fun i hi n=>?_,fun i hi=>?_,fun i hi=>?_,z.nd,z.lt,?_⟩
 ·show g i=(Mq.fresh a.fl 3 i).base;rw[F i hi];exact z.bs i hi
 ·show(pl i).length=(Mq.fresh a.fl 3 i).kept.length;rw[F i hi];simpa using z.pn i hi
 ·show clr sh 3 (i * 3)=aD' (Mq.fresh a.fl 3 i).base (Mq.fresh a.fl 3 i).kept (pl i);unfold clr;rw[if_neg (by omega),F i hi,z.kp i hi];exact fg' _ _ _ _ (by simp)
 ·show al' (clr sh 3 (i * 3+1)) _=dd' (Mq.fresh a.fl 3 i) n;unfold clr;rw[if_pos (by omega),F i hi];unfold dd';simp only
  split
  ·rfl
  ·cases h:((a.fl i).kept.map fun r=>(r.1,0))[n - (a.fl i).base - 1]? with
   |none=>rfl
   |some x=>
    rw[z70]at h;cases hk:(a.fl i).kept[n - (a.fl i).base - 1]? with
    |none=>rw[hk]at h;cases h
    |some y=>rw[hk]at h;cases h;rfl
 ·show lk' (clr sh 3 (i * 3+1));unfold clr;rw[if_pos (by omega)];intro x G;cases G
 ·show(al' (clr sh 3 (i * 3+2)) _).isSome=(Mq.fresh a.fl 3 i).held.contains n;unfold clr;rw[if_pos (by omega),F i hi];rfl
 ·show oD' (clr sh 3 (i * 3+2));unfold clr;rw[if_pos (by omega)];intro x G;cases G
 ·show(clr sh 3 (i * 3+2)).length<=3;unfold clr;rw[if_pos (by omega)];simp
 ·have h:=z.sum;have h2:Mq.Ag.room {a with Qd:=true,fl:=Mq.fresh a.fl 3}=a.room:=by simp[Mq.Ag.room,Mq.fresh]
  rw[h2];exact h
theorem yn' (b l:Nat) (n:Int):max (b:Int) (min n ((b+l:Nat):Int))=((b+min (n - b).toNat l:Nat):Int):=by omega
theorem lu' (G:Je w p g a.Qf a.Qd a.fenced free sh st c) (H:Js a st.Qe g free sh pl) (e:Nat) (s q:Int) (b:z10) (O:e≠a.Qa):
  Calls prog 104 #[D' p, .agg #[.int .i64 2, .int .i64 e, .int .i64 s, .int .i64 q, .string b]] w fun r z=>r= .returned (.int .i64 0)/\Below w.heap.size w z:=by
 have I:=fun z (Q:Below w.heap.size w z)=>m' (bW' (G.below Q));obtain⟨ep,F⟩:=exq (a.Qa);have J:st.Qe=ep:=by rw[F];exact H.ep
 rw[J]at I;rw[<-F]at O;have M:=m' (dY' w #[.int .i64 2, .int .i64 e, .int .i64 s, .int .i64 q, .string b]);have aa:((e:Int) != (ep:Int))=true:=by simp;omega
 clear G H J F;unfold D' at *;go_enter func104,ntmps104;go_upto_region 1 with fail;refine G' (Xv w #[.int .i64 2, .int .i64 e, .int .i64 s, .int .i64 q, .string b]) (d' M) ?_;clear M;intro x X;have V:=y' (i:=1) X.box;simp at V;have Y:=fun n=>m' (d' (I (x.drewN n) (X.drewN n).bel));have Z:=m' X;clear X;go_quiet (first|(go_at_call 66;exact z57 (d' (Y _))));go_wp2;go_ret;exact⟨rfl,((d' Z).drewN _).bel⟩
end
variable{dB:List Nat -> Prop}
theorem lw' (h0:dB []) (h1:∀l n,dB l->dB (l++[n])) (l:List Nat):dB l:=by
 have z:∀ (k:Nat) (l:List Nat),l.length=k->dB l:=by
  intro k;induction k with
  |zero=>intro l hl;rw[List.length_eq_zero_iff.1 hl];exact h0
  |succ k ih=>
   intro l hl;rcases wo' l with rfl|⟨F,n,rfl⟩
   ·simp at hl
   ·rw[wp'];exact h1 _ _ (ih _ (by simpa using hl))
 exact z _ l rfl
theorem fh' (l:List Nat) (n:Nat):(l++[n]).foldl (fun l n=>br' l n dJ') []=br' (l.foldl (fun l n=>br' l n dJ') []) n dJ':=by simp
theorem sY':∀ (l:List Nat),oD' (l.foldl (fun l n=>br' l n dJ') []):=by
 refine lw' (fun x z=>by cases z) (fun l n ih=>?_)
 ·rw[fh'];intro x z;rcases hY' z with rfl|z
  ·rfl
  ·exact ih x z
theorem nz':∀ (l:List Nat),(l.foldl (fun l n=>br' l n dJ') []).length<=l.length:=by
 refine lw' (by simp) (fun l n ih=>?_)
 ·rw[fh'];have:=fP' (l.foldl (fun l n=>br' l n dJ') []) n dJ';simp;omega
theorem sZ':∀ (l:List Nat) (n:Nat),(al' (l.foldl (fun l n=>br' l n dJ') []) (n:Int)).isSome=l.contains n:=by
 refine lw' (fun n=>rfl) (fun l m ih=>?_)
 ·intro n;rw[fh',gk'];unfold jV';by_cases h:(n:Int)=(m:Int)
  ·have z:n=m:=(by omega);subst z;rw[if_pos rfl];simp
  ·rw[if_neg h,ih n];have z:¬n=m:=(by omega);simp[z]
section
variable {g:Nat->Nat} {free:List Nat} {sh:Nat->List (Nat×Value)} {a:Mq.Ag} {op:Nat} {pl:Nat->List Nat}
theorem uY' (z:Js a op g free sh pl) (hs:w < 3) (l:List Nat) (hl:l.length<=3):
  Js {a with fl:=Mq.upd a.fl w {a.fl w with held:=l}} op g free (fun t=>if t=w * 3+2 then l.foldl (fun l n=>br' l n dJ') []else sh t) pl:=by
 have F:∀j,Mq.upd a.fl w {a.fl w with held:=l} j=if j=w then {a.fl w with held:=l}else a.fl j:=fun j=>rfl
 refine⟨z.ep,fun j hj=>?_,fun j hj=>?_,fun j hj=>?_,fun j hj n=>?_,fun j hj=>?_,fun j hj n=>?_,fun j hj=>?_,fun j hj=>?_,z.nd,z.lt,?_⟩
 ·show g j=(Mq.upd a.fl w {a.fl w with held:=l} j).base;rw[F];by_cases e:j=w
  ·subst e;rw[if_pos rfl];exact z.bs j hj
  ·rw[if_neg e];exact z.bs j hj
 ·show(pl j).length=(Mq.upd a.fl w {a.fl w with held:=l} j).kept.length;rw[F];by_cases e:j=w
  ·subst e;rw[if_pos rfl];exact z.pn j hj
  ·rw[if_neg e];exact z.pn j hj
 ·show(if j * 3=w * 3+2 then _ else sh (j * 3))=aD' (Mq.upd a.fl w {a.fl w with held:=l} j).base (Mq.upd a.fl w {a.fl w with held:=l} j).kept (pl j);rw[if_neg (by omega),F];by_cases e:j=w
  ·subst e;rw[if_pos rfl];exact z.kp j hj
  ·rw[if_neg e];exact z.kp j hj
 ·show al' (if j * 3+1=w * 3+2 then _ else sh (j * 3+1)) _=dd' (Mq.upd a.fl w {a.fl w with held:=l} j) n;rw[if_neg (by omega),F];by_cases e:j=w
  ·subst e;rw[if_pos rfl];exact z.sn j hj n
  ·rw[if_neg e];exact z.sn j hj n
 ·show lk' (if j * 3+1=w * 3+2 then _ else sh (j * 3+1));rw[if_neg (by omega)];exact z.si j hj
 ·show(al' (if j * 3+2=w * 3+2 then _ else sh (j * 3+2)) _).isSome=(Mq.upd a.fl w {a.fl w with held:=l} j).held.contains n;rw[F];by_cases e:j=w
  ·subst e;rw[if_pos rfl,if_pos rfl];exact sZ' l n
  ·rw[if_neg (by omega),if_neg e];exact z.hd j hj n
 ·show oD' (if j * 3+2=w * 3+2 then _ else sh (j * 3+2));by_cases e:j=w
  ·subst e;rw[if_pos rfl];exact sY' l
  ·rw[if_neg (by omega)];exact z.hu j hj
 ·show(if j * 3+2=w * 3+2 then _ else sh (j * 3+2)).length<=3;by_cases e:j=w
  ·subst e;rw[if_pos rfl];exact z26 (nz' l) hl
  ·rw[if_neg (by omega)];exact z.hl j hj
 ·have h:=z.sum;obtain⟨f2,G⟩:=exq (({a.fl w with held:=l}:Mq.Jl));have hk:f2.kept.length=(a.fl w).kept.length:=by rw[G]
  have h2:=ig' (a:=a) hs f2;rw[<-G];omega
end
variable{o:z10}
theorem Ap' (h:0 < o.size):o[0].toNat=(o.data.toList.getD 0 0).toNat:=by
 have z:0 < o.data.size:=h;simp[List.getD_eq_getElem?_getD,Array.getElem?_eq_getElem z,ByteArray.getElem_eq_getElem_data]
end Go.Proofs.YtamafdcnbcoegaaGreat
