/- Part 4. -/
import Derived.Test.YtamafdcnbcoegaaGreatOj3
set_option maxRecDepth 100000
set_option maxHeartbeats 40000000
namespace Go.Proofs.YtamafdcnbcoegaaGreat
attribute [local simp, local go_sem] Ev Ep Ei Eb Et
abbrev mq':= @Option.some.inj
abbrev z104:= @List.length_nil
abbrev wb':= @List.mem_or_eq_of_mem_set
abbrev xX':= @List.drop_eq_getElem_cons
abbrev wc':= @Nat.le_succ_of_le
abbrev z163:= @decide_false
abbrev zu':= @List.getElem?_set_self
abbrev z176:= @decide_true
abbrev zv':= @List.getElem?_set_ne
abbrev zw':= @List.mem_of_mem_drop
open Go.RowKit Go.Proofs.Tryz
theorem mr' (a:Mq.Ag) (r:ah') (z F:Nat->Value) (s:Nat) (hs:s < 3) (v:Value) (x:List Nat):
  (ai' a r z F).setIfInBounds (5+s * 3+2) v=ai' {a with fl:=Mq.upd a.fl s {a.fl s with held:=x}} r z (jN' F s v):=by
 obtain rfl|rfl|rfl:s=0\/s=1\/s=2:=by omega
 all_goals rfl
theorem Qk.Zs {w w1:World} {p:Nat} {a:Mq.Ag} {r:ah'} {I H:Nat->Value} (R:Qk w p a r I H) (s:Nat) (hs:s < 3) {v':Value} {x:List Nat} (M:Far (fun k=>(H s).ownBlock=some k) w w1)
  (hl:∀g,v'.ownBlock=some g->(H s).ownBlock=some g\/w.heap.size<=g) (ah:Qi w1 3 1 v' x.length (J' x)) (ai:x.length<=3):
  (∃C,w1.heap[p]? =some (.cells C 124 (0,0))/\C[5+s * 3+2]? =some (H s))/\
  aU' w (w1.setCell ⟨p,5+s * 3+2,none⟩ v') p {a with fl:=Mq.upd a.fl s {a.fl s with held:=x}} r I H:=by
 have ab:(H s).ownBlock≠some p:=(R.held s hs).ne R.blk (by decide);have ac:=M.blk R.blk ab;have aj:∀t,t < 3->(I t).ownBlock≠some p:=fun t z=>(R.kept t z).ne R.blk (by decide);have ak:∀t,t < 3->(H t).ownBlock≠some p:=fun t z=>(R.held t z).ne R.blk (by decide);have Y:∀k,k < w.heap.size->v'.ownBlock=some k->(H s).ownBlock=some k:=fun k hk e=>(hl k e).elim id (fun h=>by omega);have O:=Q' w1 p (5+s * 3+2) v';have Z:∀t,Mq.upd a.fl s {a.fl s with held:=x} t=if t=s then {a.fl s with held:=x}else a.fl t:=fun t=>rfl
 refine⟨⟨_,ac,?_⟩,I,jN' H s v',⟨?_,?_,?_,R.apk,?_,R.ep,R.tk,?_,?_,?_⟩,?_,?_⟩
 ·obtain rfl|rfl|rfl:s=0\/s=1\/s=2:=by omega
  all_goals rfl
 ·rw[<-mr' a r I H s hs];exact aa' ac
 ·intro t z;have:(Mq.upd a.fl s {a.fl s with held:=x} t).kept=(a.fl t).kept:=by rw[Z];split <;> simp_all
  simp only[this];exact((R.kept t z).far M (fun g F aa=>(R.kept t z).ty (R.held s hs) (by decide) F aa)).far O (fun g F J=>aj t z (by rw[F,J]))
 ·intro t z;by_cases G:t=s
  ·subst G;rw[bf'];simp only[Mq.Ql];refine ah.far O (fun g F J=>?_);rw[J]at F;exact ab (Y p (z14 R.blk) F)
  ·rw[aB' _ _ G];simp only[Mq.Va _ _ G];exact((R.held t z).far M (fun g F aa=>R.aph t s z hs G g F aa)).far O (fun g F J=>ak t z (by rw[F,J]))
 ·intro t u z hu Q g F;by_cases G:t=s
  ·subst G;rw[bf']at F;rw[aB' _ _ (fun e=>Q e.symm)];intro V;have ao:=(R.held u hu).lt g V;exact R.aph t u z hu Q g (Y g ao F) V
  ·rw[aB' _ _ G]at F;by_cases ad:u=s
   ·subst ad;rw[bf'];intro V;exact R.aph t u z hu Q g F (Y g ((R.held t z).lt g F) V)
   ·rw[aB' _ _ ad];exact R.aph t u z hu Q g F
 ·intro t z;have:(Mq.upd a.fl s {a.fl s with held:=x} t).base=(a.fl t).base:=by rw[Z];split <;> simp_all
  simp only[this];exact R.bs t z
 ·intro t z;have:(Mq.upd a.fl s {a.fl s with held:=x} t).kept=(a.fl t).kept:=by rw[Z];split <;> simp_all
  simp only[this];exact R.kl t z
 ·intro t z;by_cases G:t=s
  ·subst G;simp only[Mq.Ql];exact ai
  ·simp only[Mq.Va _ _ G];exact R.hl t z
 ·exact(M.mono (E':=aO' p I H) (fun k _ h=> .inr ⟨s,hs, .inr h⟩)).trans O (fun k _ h=> .inl h)
 ·rintro k (rfl|⟨t,z,hk|hk⟩)
  ·exact .inl (.inl rfl)
  ·exact .inl (.inr ⟨t,z, .inl hk⟩)
  ·by_cases G:t=s
   ·subst G;rw[bf']at hk;rcases hl k hk with h|h
    ·exact .inl (.inr ⟨t,z, .inr h⟩)
    ·exact .inr h
   ·rw[aB' _ _ G]at hk;exact .inl (.inr ⟨t,z, .inr hk⟩)
theorem hP':∀ (l:List (z10×Nat)) (i:Nat) (h:i < l.length) (n:Nat),(aK' l).set (i * 2+1) (.int .i64 n)=aK' (l.set i (l[i].1,n))
 |x::l,0,_,n=>rfl
 |x::l,i+1,h,n=>by have:=hP' l i (by simpa using h) n;rw[show(i+1) * 2+1=i * 2+1+2 by omega];simpa[aK']using this
variable{p:World}{w:Nat}{y:Mq.Ag}{H:ah'}{b z:Nat -> Value}
theorem Qk.sentStep (R:Qk p w y H b z) (s:Nat) (hs:s < 3) {g o cap i:Nat} (hk:b s= .slice (some ⟨g,o,none⟩) (y.fl s).kept.length cap) (hi:i < (y.fl s).kept.length) (n:Nat):
  Qk (p.setCell ⟨g,o+(i * 2+1),none⟩ (.int .i64 n)) w {y with fl:=Mq.upd y.fl s {y.fl s with kept:=(y.fl s).kept.set i ((y.fl s).kept[i].1,n)}} H b z/\p.frozen? ⟨g,o+(i * 2+1),none⟩=false:=by
 have M:=R.kept s hs;rw[hk]at M;have V:=Q' p g (o+(i * 2+1)) (.int .i64 n);have Y:(b s).ownBlock=some g:=by rw[hk];rfl
 have O:∀t,Mq.upd y.fl s {y.fl s with kept:=(y.fl s).kept.set i ((y.fl s).kept[i].1,n)} t=if t=s then {y.fl s with kept:=(y.fl s).kept.set i ((y.fl s).kept[i].1,n)}else y.fl t:=fun t=>rfl
 refine⟨⟨?_,?_,?_,R.apk,R.aph,R.ep,R.tk,?_,?_,?_⟩,?_⟩
 ·rw[P' (fun e=>M.ne R.blk (by decide) (by rw[<-e];rfl)),R.blk];have G:∀t,(Mq.upd y.fl s {y.fl s with kept:=(y.fl s).kept.set i ((y.fl s).kept[i].1,n)} t).base=(y.fl t).base:=by intro t;rw[O];split <;> simp_all
  simp only[ai',G]
 ·intro t F;by_cases J:t=s
  ·subst J;simp only[Mq.Ql];rw[hk,xT',<-hP' _ _ hi];exact M.set (by omega) _
  ·simp only[Mq.Va _ _ J];exact(R.kept t F).far V (fun g' Q e=>R.apk t s F hs J g' Q (by rw[Y,e]))
 ·intro t F;have G:(Mq.upd y.fl s {y.fl s with kept:=(y.fl s).kept.set i ((y.fl s).kept[i].1,n)} t).held=(y.fl t).held:=by rw[O];split <;> simp_all
  simp only[G];exact(R.held t F).far V (fun g' Q e=>(R.held t F).ty (R.kept s hs) (by decide) Q (by rw[Y,e]))
 ·intro t F;have G:(Mq.upd y.fl s {y.fl s with kept:=(y.fl s).kept.set i ((y.fl s).kept[i].1,n)} t).base=(y.fl t).base:=by rw[O];split <;> simp_all
  simp only[G];exact R.bs t F
 ·intro t F;by_cases J:t=s
  ·subst J;simp only[Mq.Ql];rw[xT'];exact R.kl t F
  ·simp only[Mq.Va _ _ J];exact R.kl t F
 ·intro t F;have G:(Mq.upd y.fl s {y.fl s with kept:=(y.fl s).kept.set i ((y.fl s).kept[i].1,n)} t).held=(y.fl t).held:=by rw[O];split <;> simp_all
  simp only[G];exact R.hl t F
 ·obtain⟨_,h2⟩:=M;rcases h2 with ⟨h2,_⟩|⟨g',aa,ab,ac,I,Z,_⟩
  ·cases h2
  ·injection I with I;injection I with I;injection I with I;subst I;exact H' Z
theorem fa' (a:Mq.Ag) (k e st q:Int) (b:z10) (s:Nat):a.Xr k e st q b s<=(a.fl s).kept.length:=by
 unfold Mq.Ag.Xr;split
 ·omega
 ·split
  ·unfold Mq.Ag.gone;omega
  ·split
   ·unfold Mq.Ag.gone;omega
   ·omega
theorem so' (f:Nat->Mq.Jl):Mq.fresh f 0=f:=by funext t;simp[Mq.fresh]
theorem sp' (f:Nat->Mq.Jl) (s:Nat):Mq.fresh f s s=f s:=by simp[Mq.fresh]
theorem sq' (f:Nat->Mq.Jl) (s:Nat):Mq.fresh f (s+1)=Mq.upd (Mq.fresh f s) s {f s with kept:=(f s).kept.map fun r=>(r.1,0),held:=[]}:=by
 funext t;unfold Mq.fresh Mq.upd;by_cases h:t=s
 ·subst h;simp
 ·by_cases h2:t < s
  ·simp[h,h2,show t < s+1 by omega]
  ·simp[h,h2,show ¬t < s+1 by omega]
def cZ' (i:Nat) (l:List (z10×Nat)):List (z10×Nat):=((l.take i).map fun r=>(r.1,0))++l.drop i
theorem bx' (i:Nat) (l:List (z10×Nat)):(cZ' i l).length=l.length:=by simp[cZ'];omega
theorem pR' (l:List (z10×Nat)):cZ' 0 l=l:=by simp[cZ']
theorem sr' (l:List (z10×Nat)):cZ' l.length l=l.map fun r=>(r.1,0):=by simp[cZ']
variable{bJ:List (z10×Nat)}
theorem ss' (h:w < bJ.length):(cZ' w bJ)[w]'(by rw[bx'];exact h)=bJ[w]:=by
 unfold cZ';rw[List.getElem_append_right (by simp;omega)];simp;congr 1;omega
theorem su' (h:w < bJ.length):(cZ' w bJ).set w (bJ[w].1,0)=cZ' (w+1) bJ:=by
 unfold cZ';rw[zl' _ _ (by simp;omega),z84 h,z96,z38];congr 1;have:w - ((bJ.take w).map fun r=>(r.1,0)).length=0:=by simp;omega
 rw[this,xX' h];rfl
theorem gH' (R:Qk p w y H b z) (k e st q:Int) (F:z10) (hk:k=2) (au:e=y.Qa) (hb:F.size=12) (av:∀s,s < 3->(y.fl s).base+(y.fl s).kept.length<=1000000000000000):
  Calls prog 174 #[.pointer (some ⟨w,0,none⟩), .agg #[.int .i64 k, .int .i64 e, .int .i64 st, .int .i64 q, .string F]] p fun x w'=>x= .returned (.tuple #[])/\aU' p w' w {y.drop (y.Xr k e st q F)with Qd:=true,fl:=Mq.fresh (y.drop (y.Xr k e st q F)).fl 3} H b z:=by
 have k5:(k==5)=false:=by subst hk;rfl
 have k2:(k==2)=true:=by subst hk;rfl
 have h2:Hid (k=2->F.size=12):=fun _=>hb;have h4:Hid (k=4->0<=q/\q<=2147483647):=fun h=>by omega
 have bq:(e != (y.Qa:Int))=false:=by simpa using au
 have ba:=m' av;clear hk au hb av;have ax:=m' (cY' R k e st q F);have br:=z14 R.blk;generalize ay:(y.Qa:Int)=ep at *;go_enter func174,ntmps174;go_upto_region 1 with fail;refine G' (fun x=>Yz p x w y H b z k e st q F) (d' ax) ?_;clear ax R;intro x L;obtain⟨O,Q⟩:=cW' L.box;have c0:=y' (i:=0) L.ref.blk;have c2:=y' (i:=2) L.ref.blk;have f2:=H' (i:=2) L.ref.blk;have c3:=y' (i:=3) L.ref.blk;have f3:=H' (i:=3) L.ref.blk;simp[ai']at O Q c0 c2 c3;rw[ay]at c0;have G:=m' L;clear L ay;go_quiet (fail);go_wp2;go_quiet (fail);go_upto_region 8 with fail;refine G' (fun x=>Yz p x w y H b z k e st q F) (by first|exact((d' G).drew _).drew _|exact(d' G).drew _) ?_;clear G O Q c0 c2 f2 c3 f3;intro bt L;obtain⟨O,Q,az,aA,aB⟩:=dK' L.box;simp at O Q az aA aB;have G:=m' L;clear L;have aC:=m' (fF' (d' G).ref k e st q F (d' h2) (d' h4));go_upto_region 9 with (first|(go_at_call 173;refine(d' aC).mono ?_;rintro bb w1 ⟨rfl,ad⟩;have ah:=m' ad;have aD:=m' (jo' ((d' G).ref.far (C' (E:=fun _=>False) ad) (fun _ _ h=>h)) (y.Xr k e st q F) (fun s _=>fa' y k e st q F s) (fun s hs=>by have:=(d' ba) s hs;have:=fa' y k e st q F s;omega));clear ad)|(go_at_call 210;refine(d' aD).mono ?_;rintro bb bc ⟨rfl,bd⟩));obtain⟨aE,aF,Z,aG,aH⟩:=bd;have aI:=m' (((C' (E:=aO' w b z) (d' G).bel).trans (C' (E:=aO' w b z) (d' ah)) (fun _ _ h=>h)).trans aG (fun _ _ h=>h));have aJ:Hid (∀k,aO' w aE aF k->aO' w b z k\/p.heap.size<=k):=fun k hk=>(aH k hk).elim .inl (fun h=> .inr (by have:=(d' G).bel.size;have:=(d' ah).size;omega));have c2:=y' (i:=2) Z.blk;have f2:=H' (i:=2) Z.blk;simp[ai']at c2;have ai:=m' Z;clear Z aG aH aD aC G ah O Q az aA aB;obtain⟨a1,hA1⟩:=exq (y.drop (y.Xr k e st q F));rw[<-hA1]at ai c2;have be:=m' hA1;clear hA1;go_wp2;go_loopw[4] (fun i wr=>∃ (s:Nat) (aK aL:Nat->Value),s<=3/\i= .int .i64 s/\Qk wr w {a1 with Qd:=true,fl:=Mq.fresh a1.fl s} H aK aL/\Far (aO' w b z) p wr/\(∀k,aO' w aK aL k->aO' w b z k\/p.heap.size<=k)) (fun i _=>3 - (intOf i).toNat)
 case atStart=>refine⟨0,aE,aF,by omega,rfl,?_,(d' aI).trans (Q' bc w 2 (.bool true)) (fun k _ h=> .inl h),d' aJ⟩;rw[so'];exact(d' ai).Qd true
 case round=>
  obtain⟨s,bf,bg,hs,rfl,R,hF,aM⟩:=hrel;have I:=m' hF;have aa:=m' aM;clear hF aM ai aI aJ c2 f2;by_cases J:s < 3
  ·obtain⟨_,_,d2⟩:=bR' R s J;have bh:=H' (i:=5+s * 3+2) R.blk;have aN:(s:Int) < 3:=(by omega);have hst:=R.Zs s J (x:=[]) (Far.refl _ _) (v':= .slice none 0 0) (fun g bi=>by cases bi) (bb' _ _ _) (by simp);obtain⟨_,V,Y,aj,aO,aP⟩:=hst;simp only[sp']at aj;have aQ:=m' aj;have aR:=m' ((d' I).trans aO (fun k hk h=>((d' aa) k h).elim id (fun h=>by omega)));have aS:Hid (∀k,aO' w V Y k->aO' w b z k\/p.heap.size<=k):=fun k hk=>(aP k hk).elim (fun h=>(d' aa) k h) (fun h=> .inr (z26 (d' I).size h));clear R aj aO aP I aa;go_upto_region 14 with fail;refine G' (fun x=>Qk x w {a1 with Qd:=true,fl:=Mq.upd (Mq.fresh a1.fl s) s {a1.fl s with held:=[]}} H V Y/\Far (aO' w b z) p x) ⟨d' aQ,d' aR⟩ ?_;clear aQ aR d2 bh;rintro bu ⟨aT,aU⟩;have aV:=m' aT;have aW:=m' aU;clear aT aU;go_wp2;go_loopw[5] (fun i wr=>∃j:Nat,j<=(a1.fl s).kept.length/\i= .int .i64 j/\Qk wr w {a1 with Qd:=true,fl:=Mq.upd (Mq.fresh a1.fl s) s {a1.fl s with kept:=cZ' j (a1.fl s).kept,held:=[]}} H V Y/\Far (aO' w b z) p wr) (fun i _=>(a1.fl s).kept.length - (intOf i).toNat)
   case atStart=>exact⟨0,z54 _,rfl,by rw[pR'];exact d' aV,d' aW⟩
   case round=>
    obtain⟨j,hj,rfl,R,hF⟩:=hrel;obtain⟨_,d1,_⟩:=bR' R s J;have ab:=R.kept s J;simp only[Mq.Ql,bx']at ab;obtain⟨bw,bj,ac,bz,aX,ak⟩:=ab.shape;have bk:=R.kl s J;simp only[Mq.Ql,bx']at bk;rw[ac]at d1;have I:=m' hF;clear hF aV aW;by_cases M:j < (a1.fl s).kept.length
    ·obtain⟨g,o,rfl,aY⟩:=ak (by omega);have bl:=R.sentStep s J (g:=g) (o:=o) (cap:=bj) (i:=j) (by simp only[Mq.Ql,bx'];exact ac) (by simp only[Mq.Ql,bx'];exact M) 0;obtain⟨ao,f6⟩:=bl;simp only[Mq.Ql,et',ss' M,su' M]at ao;have ap:=aY (j * 2+1) (by omega);rw[eG' _ j (by rw[bx'];exact M)]at ap;have bm:wr.cell? ⟨g,o+j * 2+1,none⟩=some (.int .i64 (((cZ' j (a1.fl s).kept)[j]'(by rw[bx'];exact M)).2:Nat)):=ap
     have f7:wr.frozen? ⟨g,o+j * 2+1,none⟩=false:=f6;have aZ:aO' w V Y g:= .inr ⟨s,J, .inl (by rw[ac];rfl)⟩;have bn:=m' ((d' I).trans (Q' wr g (o+(j * 2+1)) (.int .i64 0)) (fun k hk e=>by rw[e];exact((d' aS) g aZ).elim id (fun h=>by rw[e]at hk;omega)));have aq:=m' ao;clear R ao ab ak aY ap f6 aZ I aX;generalize (((cZ' j (a1.fl s).kept)[j]'(by rw[bx'];exact M)).2:Nat)=old at bm
     go_wp2;go_roundw
     case rel=>exact⟨j+1,by omega,by go_num,d' aq,d' bn⟩
     case measure=>simp[intOf];omega
    ·have bo:j=(a1.fl s).kept.length:=(by omega);subst bo;rw[sr']at R;rw[<-sq']at R;have aq:=m' R;clear R ab ak aX ac;go_wp2;go_roundw
     case rel=>exact⟨s+1,V,Y,by omega,by go_num,d' aq,d' I,d' aS⟩
     case measure=>simp[intOf];omega
  ·have aN:s=3:=(by omega);subst aN;have bp:=m' R;clear R;go_wp2;refine z77 (z65 rfl _ _ _) rfl ?_;rw[<-d' be];exact⟨rfl,bf,bg,d' bp,d' I,d' aa⟩
theorem Ak':∀n:Fin 256,(bits BinOp.and IntKind.u8 ((n.val:Nat):Int) 1==1)=decide (n.val % 2=1):=by decide+kernel
theorem Al':∀n:Fin 256,(bits BinOp.and IntKind.u8 (((n.val:Nat):Int) / 2) 1==1)=decide (n.val / 2 % 2=1):=by decide+kernel
theorem Am':∀n:Fin 256,(bits BinOp.and IntKind.u8 (((n.val:Nat):Int) / 4) 1==1)=decide (n.val / 4 % 2=1):=by decide+kernel
theorem cp' (q c:Nat):∀i,(Mq.bitsOf q c i).length<=i
 |0=>by simp[Mq.bitsOf]
 |i+1=>by have:=cp' q c i;simp only[Mq.bitsOf,List.length_append];split <;> simp <;> omega
theorem ch' (l:List Nat) (n:Nat):J' (l++[n])=J' l++[.int .i64 (n:Int)]:=by simp[J']
theorem jT' (R:Qk p w y H b z) (k e:Int) (s qn:Nat) (F:z10) (hk:k=4) (G:e=y.Qa) (I:y.Qd=true) (hs:s < 3) (ac:qn<=2147483647) (V:min qn ((y.fl s).base+(y.fl s).kept.length) < (y.fl s).base):
  Calls prog 174 #[.pointer (some ⟨w,0,none⟩), .agg #[.int .i64 k, .int .i64 e, .int .i64 s, .int .i64 qn, .string F]] p fun x w'=>x= .returned (.tuple #[])/\aU' p w' w y H b z:=by
 have k5:(k==5)=false:=by subst hk;rfl
 have k2:(k==2)=false:=by subst hk;rfl
 have k4:(k==4)=true:=by subst hk;rfl
 have ad:(e != (y.Qa:Int))=false:=by simpa using G
 have ah:=m' hk;have ai:(qn:Int) < (y.fl s).base:=by omega
 clear hk G;have J:=m' (cY' R k e s qn F);have aj:=z14 R.blk;generalize M:(y.Qa:Int)=ep at *;go_enter func174,ntmps174;go_upto_region 1 with fail;refine G' (fun x=>Yz p x w y H b z k e s qn F) (d' J) ?_;clear J R;intro x L;obtain⟨Y,Z⟩:=cW' L.box;have c0:=y' (i:=0) L.ref.blk;have c2:=y' (i:=2) L.ref.blk;have f2:=H' (i:=2) L.ref.blk;have c3:=y' (i:=3) L.ref.blk;have f3:=H' (i:=3) L.ref.blk;simp[ai']at Y Z c0 c2 c3;rw[M]at c0;rw[I]at c2;have aa:=y' (i:=2) L.box;have ab:=y' (i:=3) L.box;simp at aa ab;obtain⟨d0,d1,_⟩:=bR' L.ref s hs;obtain⟨ak,ao,O,_⟩:=(L.ref.kept s hs).shape;have ap:=L.ref.kl s hs;have aq:=L.ref.bs s hs;rw[O]at d1;clear O;have au:(s:Int) < 3:=by omega
 have av:¬ (((y.fl s).base:Int)+(y.fl s).kept.length < qn):=by omega
 have Q:=m' L;clear L M;clear I V;generalize (y.fl s).base=bs at *;generalize (y.fl s).kept.length=len at *;go_quiet (fail);go_wp2;go_quiet (fail);go_wp2;go_quiet (fail);go_wp2;go_quiet (fail);go_wp2;refine z50 (z65 rfl _ _ _) rfl ?_;exact⟨rfl,bM' (a':=y) ((d' Q).drew _).ref (C' ((d' Q).drew _).bel)⟩
theorem kI' (R:Qk p w y H b z) (k e:Int) (s qn:Nat) (F:z10) (hk:k=4) (bc:e=y.Qa) (bd:y.Qd=true) (hs:s < 3) (aD:qn<=2147483647) (hb:0 < F.size) (be:¬min qn ((y.fl s).base+(y.fl s).kept.length) < (y.fl s).base) (bf:∀s,s < 3->(y.fl s).base+(y.fl s).kept.length<=1000000000000000):
  Calls prog 174 #[.pointer (some ⟨w,0,none⟩), .agg #[.int .i64 k, .int .i64 e, .int .i64 s, .int .i64 qn, .string F]] p fun x w'=>x= .returned (.tuple #[])/\aU' p w' w {y.drop (y.Xr k e s qn F)with fl:=Mq.upd (y.drop (y.Xr k e s qn F)).fl s {(y.drop (y.Xr k e s qn F)).fl s with held:=Mq.bitsOf (min qn ((y.fl s).base+(y.fl s).kept.length)) F[0].toNat 3}} H b z:=by
 have k5:(k==5)=false:=by subst hk;rfl
 have k2:(k==2)=false:=by subst hk;rfl
 have k4:(k==4)=true:=by subst hk;rfl
 have bX:(e != (y.Qa:Int))=false:=by simpa using bc
 have h2:Hid (k=2->F.size=12):=fun h=>by omega
 have h4:Hid (k=4->(0:Int)<=qn/\(qn:Int)<=2147483647):=fun _=>by omega
 have bF:=m' bf;obtain⟨G,aV⟩:=exq (min qn ((y.fl s).base+(y.fl s).kept.length));rw[<-aV]at be ⊢;have bG:¬ (G:Int) < (y.fl s).base:=by omega
 have bY:G<=2147483647:=by omega
 have bH:=m' aV;have aE:=m' R;clear hk bc bf be aV;have bg:=m' (cY' R k e s qn F);have bZ:=z14 R.blk;generalize bh:(y.Qa:Int)=ep at *;go_enter func174,ntmps174;go_upto_region 1 with fail;refine G' (fun x=>Yz p x w y H b z k e s qn F) (d' bg) ?_;clear bg R;intro x L;obtain⟨aG,ak⟩:=cW' L.box;have c0:=y' (i:=0) L.ref.blk;have c2:=y' (i:=2) L.ref.blk;have f2:=H' (i:=2) L.ref.blk;have c3:=y' (i:=3) L.ref.blk;have f3:=H' (i:=3) L.ref.blk;simp[ai']at aG ak c0 c2 c3;rw[bh]at c0;rw[bd]at c2;have aH:=y' (i:=2) L.box;have aI:=y' (i:=3) L.box;simp at aH aI;obtain⟨d0,d1,_⟩:=bR' L.ref s hs;obtain⟨ca,cb,bi,_⟩:=(L.ref.kept s hs).shape;have bI:=L.ref.kl s hs;have bJ:=L.ref.bs s hs;rw[bi]at d1;clear bi;have cc:(s:Int) < 3:=by omega
 have ac:=m' L;clear L bh;clear bd;obtain⟨bs,aW⟩:=exq ((y.fl s).base);obtain⟨len,aX⟩:=exq ((y.fl s).kept.length);rw[<-aW]at d0 bJ bG;rw[<-aX]at d1 bI;have bj:Hid (G=min qn (bs+len)):=by rw[aW,aX];exact bH
 clear aW aX;go_quiet (fail);go_wp2;go_quiet (fail);go_wp2;go_quiet (fail);go_wp2;go_quiet (fail);have aY:((bs:Int)+len)=((bs+len:Nat):Int):=by omega
 by_cases bK:((bs:Int)+len) < qn
 case' pos=>
  have aQ:G=bs+len:=by have:=d' bj;omega
  rw[aY,<-aQ];have cd:(G:Int) < qn:=by omega
  clear bK aQ aY
 case' neg=>
  have aQ:G=qn:=by have:=d' bj;omega
  subst aQ;clear aY;let qn:Nat:=G
 all_goals
  go_upto_region 26 with fail
  refine G' (fun x=>Yz p x w y H b z k e s qn F) ((d' ac).drew _) ?_;clear ac aG ak c0 c2 f2 c3 f3 aH aI d0 d1;intro ce L;obtain⟨aG,ak,aH,aI,bk⟩:=dK' L.box;simp at aG ak aH aI bk;have ac:=m' L;clear L;have bl:=m' (fF' (d' ac).ref k e s qn F (d' h2) (d' h4));go_upto_region 27 with (first|(go_at_call 173;refine(d' bl).mono ?_;rintro bL w1 ⟨rfl,J⟩;have aF:=m' J;have bm:=m' (jo' ((d' ac).ref.far (C' (E:=fun _=>False) J) (fun _ _ h=>h)) (y.Xr k e s qn F) (fun aR _=>fa' y k e s qn F aR) (fun aR bM=>by have:=(d' bF) aR bM;have:=fa' y k e s qn F aR;omega));clear J)|(go_at_call 210;refine(d' bm).mono ?_;rintro bL bn ⟨rfl,bN⟩));obtain⟨bO,bP,aS,aJ,bo⟩:=bN;have bp:=m' (((C' (E:=aO' w b z) (d' ac).bel).trans (C' (E:=aO' w b z) (d' aF)) (fun _ _ h=>h)).trans aJ (fun _ _ h=>h));have aZ:Hid (∀k,aO' w bO bP k->aO' w b z k\/p.heap.size < k):=fun k hk=>(bo k hk).elim .inl (fun h=> .inr (by have:=z14 (d' ac).box;have:=(d' aF).size;omega));have bq:bn.cell? ⟨p.heap.size,4,none⟩=some (.string F):=by
   have h1:=((d' aF).block p.heap.size (z14 (d' ac).box)).trans (d' ac).box;have h2:=aJ.blk h1 (fun e=>by
    rcases e with e|⟨t,br,e|e⟩
    ·omega
    ·have:=((d' aE).kept t br).lt _ e;omega
    ·have:=((d' aE).held t br).lt _ e;omega)
   exact y' h2
  have bQ:=m' bq;have bR:Hid (p.heap.size < bn.heap.size):=by have:=aJ.size;have:=z14 (d' ac).box;have:=(d' aF).size;show _ < _;omega
  obtain⟨_,_,d2⟩:=bR' aS s hs;have ba:=H' (i:=5+s * 3+2) aS.blk;have hst:=aS.Zs s hs (x:=[]) (Far.refl _ _) (v':= .slice none 0 0) (fun g aB=>by cases aB) (bb' _ _ _) (by simp);obtain⟨_,bt,bu,bb,bw,bz⟩:=hst;obtain⟨a1,hA1⟩:=exq (y.drop (y.Xr k e s qn F));rw[<-hA1]at bb;have bS:=m' hA1;have bT:=m' bb;have bU:=m' ((d' bp).trans bw (fun k hk h=>((d' aZ) k h).elim id (fun h=>by omega)));have bV:Hid (∀k,aO' w bt bu k->aO' w b z k\/p.heap.size < k):=fun k hk=>(bz k hk).elim (fun h=>(d' aZ) k h) (fun h=> .inr (by have:=aJ.size;have:=z14 (d' ac).box;have:=(d' aF).size;omega));clear aS aJ bo bm bl ac aF aG ak aH aI bk bq bb bw bz bp aZ hA1;have cf:Hid (Mq.bitsOf G F[0].toNat 0=[]):=rfl;go_wp2;go_loopw[9] (fun i wr=>∃ (j:Nat) (bA bB:Nat->Value),j<=3/\i= .int .i64 j/\Qk wr w {a1 with fl:=Mq.upd a1.fl s {a1.fl s with held:=Mq.bitsOf G F[0].toNat j}} H bA bB/\Far (aO' w b z) p wr/\(∀k,aO' w bA bB k->aO' w b z k\/p.heap.size < k)/\p.heap.size < wr.heap.size/\wr.cell? ⟨p.heap.size,4,none⟩=some (.string F)) (fun i _=>3 - (intOf i).toNat)
  case atStart=>refine⟨0,bt,bu,by omega,rfl,d' bT,d' bU,d' bV,?_,(z39 (P' (by have:=(d' aE).lt w (.inl rfl);show p.heap.size≠w;omega))).trans (d' bQ)⟩;rw[z79];exact d' bR
  case round=>
   obtain⟨j,aT,aC,hj,rfl,R,hF,ao,aj,aU⟩:=hrel;by_cases cg:j < 3
   ·obtain rfl|rfl|rfl:j=0\/j=1\/j=2:=by omega
    ·have aK:=cp' G F[0].toNat 0;have ap:(bits BinOp.and IntKind.u8 (((F[0].toNat:Nat):Int)) 1==1)=decide (F[0].toNat % 2=1):=Ak' ⟨F[0].toNat,F[0].toNat_lt⟩;obtain⟨_,_,d2⟩:=bR' R s hs;have ba:=H' (i:=5+s * 3+2) R.blk;have I:=R.held s hs;simp only[Mq.Ql]at I;have O:=m' R;have ai:=m' hF;have V:=m' ao;have aq:=m' aU;have ad:=m' I;clear R hF ao I;by_cases J:F[0].toNat % 2=1
     ·have M:=m' (show Mq.bitsOf G F[0].toNat (0+1)=Mq.bitsOf G F[0].toNat 0++[G+2+0] by simp[Mq.bitsOf,J]);simp only[J,decide_true]at ap;clear J;generalize Mq.bitsOf G F[0].toNat 0=Q at aK M ad O;go_upto_region 30 with (at_builtin;refine cx' rfl (.tmp 139) (.tmp 144) 26 rfl 3 _ 1 8 underlying26 og' rfl (aC s) Q.length (J' Q) ((d' ad).keep (fun g aB=>z25 wr _ g ((d' ad).lt g aB))) rfl ⟨wr.heap.size,0,none⟩ 1 1 [.int .i64 ((G:Int)+2)] rfl rfl aq' (by intro u hu;simp at hu;subst hu;rfl) (by omega) (by omega) (by omega) ?_;intro v' w1 I Y;rw[show J' Q++[Value.int .i64 ((G:Int)+2)]=J' (Q++[G+2+0]) by rw[ch'];simp]at I;have aD:=(d' O).Zs s hs (dN' ((z11 _ _).alloc (z13 _) _) Y) (gg' ((z11 _ _).alloc (z13 _) _) Y) (x:=Q++[G+2+0]) (by simpa using I) (by simp;omega);obtain⟨⟨C,ah,au⟩,hst⟩:=aD;have ak:=(y' (i:=5+s * 3+2) ah).trans au;have f1:=H' (i:=5+s * 3+2) ah;obtain⟨bC,bD,aL,_⟩:=I.shape;have av:=m' hst;have ax:=dN' ((z11 _ _).alloc (z13 _) _) Y;have bE:=m' ax;clear Y hst ah au I ax;subst aL);obtain⟨ay,az,Z,aa,aA⟩:=d' av;simp only[Mq.Ql,et']at Z;rw[<-d' M]at Z;have ab:=m' Z;have aM:=m' ((d' ai).trans aa (fun k hk h=>((d' V) k h).elim id (fun h=>by omega)));have aN:Hid (∀k,aO' w ay az k->aO' w b z k\/p.heap.size < k):=fun k hk=>(aA k hk).elim (fun h=>(d' V) k h) (fun h=> .inr (by omega));have aO:=z20 aj aa.size;have aP:=m' ((z39 (aa.rest p.heap.size aj (fun h=>((d' V) _ h).elim (fun h=>by have:=(d' aE).lt _ h;omega) (fun h=>by omega)))).trans (d' aq));clear Z aa aA av M O;go_wp2;go_roundw
      case rel=>exact⟨0+1,ay,az,by omega,by go_num,d' ab,d' aM,d' aN,aO,d' aP⟩
      case measure=>simp[intOf]
     ·have M:=m' (show Mq.bitsOf G F[0].toNat (0+1)=Mq.bitsOf G F[0].toNat 0 by simp[Mq.bitsOf,J]);simp only[J,decide_false]at ap;clear J;have ab:=O;rw[<-d' M]at ab;clear M O;go_wp2;go_roundw
      case rel=>exact⟨0+1,aT,aC,by omega,by go_num,d' ab,d' ai,d' V,aj,d' aq⟩
      case measure=>simp[intOf]
    ·have aK:=cp' G F[0].toNat 1;have ap:(bits BinOp.and IntKind.u8 (((F[0].toNat:Nat):Int) / 2) 1==1)=decide (F[0].toNat / 2 % 2=1):=Al' ⟨F[0].toNat,F[0].toNat_lt⟩;obtain⟨_,_,d2⟩:=bR' R s hs;have ba:=H' (i:=5+s * 3+2) R.blk;have I:=R.held s hs;simp only[Mq.Ql]at I;have O:=m' R;have ai:=m' hF;have V:=m' ao;have aq:=m' aU;have ad:=m' I;clear R hF ao I;by_cases J:F[0].toNat / 2 % 2=1
     ·have M:=m' (show Mq.bitsOf G F[0].toNat (1+1)=Mq.bitsOf G F[0].toNat 1++[G+2+1] by simp[Mq.bitsOf,J]);simp only[J,decide_true]at ap;clear J;generalize Mq.bitsOf G F[0].toNat 1=Q at aK M ad O;go_upto_region 30 with (at_builtin;refine cx' rfl (.tmp 139) (.tmp 144) 26 rfl 3 _ 1 8 underlying26 og' rfl (aC s) Q.length (J' Q) ((d' ad).keep (fun g aB=>z25 wr _ g ((d' ad).lt g aB))) rfl ⟨wr.heap.size,0,none⟩ 1 1 [.int .i64 ((G:Int)+2+1)] rfl rfl aq' (by intro u hu;simp at hu;subst hu;rfl) (by omega) (by omega) (by omega) ?_;intro v' w1 I Y;rw[show J' Q++[Value.int .i64 ((G:Int)+2+1)]=J' (Q++[G+2+1]) by rw[ch'];simp]at I;have aD:=(d' O).Zs s hs (dN' ((z11 _ _).alloc (z13 _) _) Y) (gg' ((z11 _ _).alloc (z13 _) _) Y) (x:=Q++[G+2+1]) (by simpa using I) (by simp;omega);obtain⟨⟨C,ah,au⟩,hst⟩:=aD;have ak:=(y' (i:=5+s * 3+2) ah).trans au;have f1:=H' (i:=5+s * 3+2) ah;obtain⟨bC,bD,aL,_⟩:=I.shape;have av:=m' hst;have ax:=dN' ((z11 _ _).alloc (z13 _) _) Y;have bE:=m' ax;clear Y hst ah au I ax;subst aL);obtain⟨ay,az,Z,aa,aA⟩:=d' av;simp only[Mq.Ql,et']at Z;rw[<-d' M]at Z;have ab:=m' Z;have aM:=m' ((d' ai).trans aa (fun k hk h=>((d' V) k h).elim id (fun h=>by omega)));have aN:Hid (∀k,aO' w ay az k->aO' w b z k\/p.heap.size < k):=fun k hk=>(aA k hk).elim (fun h=>(d' V) k h) (fun h=> .inr (by omega));have aO:=z20 aj aa.size;have aP:=m' ((z39 (aa.rest p.heap.size aj (fun h=>((d' V) _ h).elim (fun h=>by have:=(d' aE).lt _ h;omega) (fun h=>by omega)))).trans (d' aq));clear Z aa aA av M O;go_wp2;go_roundw
      case rel=>exact⟨1+1,ay,az,by omega,by go_num,d' ab,d' aM,d' aN,aO,d' aP⟩
      case measure=>simp[intOf]
     ·have M:=m' (show Mq.bitsOf G F[0].toNat (1+1)=Mq.bitsOf G F[0].toNat 1 by simp[Mq.bitsOf,J]);simp only[J,decide_false]at ap;clear J;have ab:=O;rw[<-d' M]at ab;clear M O;go_wp2;go_roundw
      case rel=>exact⟨1+1,aT,aC,by omega,by go_num,d' ab,d' ai,d' V,aj,d' aq⟩
      case measure=>simp[intOf]
    ·have aK:=cp' G F[0].toNat 2;have ap:(bits BinOp.and IntKind.u8 (((F[0].toNat:Nat):Int) / 4) 1==1)=decide (F[0].toNat / 4 % 2=1):=Am' ⟨F[0].toNat,F[0].toNat_lt⟩;obtain⟨_,_,d2⟩:=bR' R s hs;have ba:=H' (i:=5+s * 3+2) R.blk;have I:=R.held s hs;simp only[Mq.Ql]at I;have O:=m' R;have ai:=m' hF;have V:=m' ao;have aq:=m' aU;have ad:=m' I;clear R hF ao I;by_cases J:F[0].toNat / 4 % 2=1
     ·have M:=m' (show Mq.bitsOf G F[0].toNat (2+1)=Mq.bitsOf G F[0].toNat 2++[G+2+2] by simp[Mq.bitsOf,J]);simp only[J,decide_true]at ap;clear J;generalize Mq.bitsOf G F[0].toNat 2=Q at aK M ad O;go_upto_region 30 with (at_builtin;refine cx' rfl (.tmp 139) (.tmp 144) 26 rfl 3 _ 1 8 underlying26 og' rfl (aC s) Q.length (J' Q) ((d' ad).keep (fun g aB=>z25 wr _ g ((d' ad).lt g aB))) rfl ⟨wr.heap.size,0,none⟩ 1 1 [.int .i64 ((G:Int)+2+2)] rfl rfl aq' (by intro u hu;simp at hu;subst hu;rfl) (by omega) (by omega) (by omega) ?_;intro v' w1 I Y;rw[show J' Q++[Value.int .i64 ((G:Int)+2+2)]=J' (Q++[G+2+2]) by rw[ch'];simp]at I;have aD:=(d' O).Zs s hs (dN' ((z11 _ _).alloc (z13 _) _) Y) (gg' ((z11 _ _).alloc (z13 _) _) Y) (x:=Q++[G+2+2]) (by simpa using I) (by simp;omega);obtain⟨⟨C,ah,au⟩,hst⟩:=aD;have ak:=(y' (i:=5+s * 3+2) ah).trans au;have f1:=H' (i:=5+s * 3+2) ah;obtain⟨bC,bD,aL,_⟩:=I.shape;have av:=m' hst;have ax:=dN' ((z11 _ _).alloc (z13 _) _) Y;have bE:=m' ax;clear Y hst ah au I ax;subst aL);obtain⟨ay,az,Z,aa,aA⟩:=d' av;simp only[Mq.Ql,et']at Z;rw[<-d' M]at Z;have ab:=m' Z;have aM:=m' ((d' ai).trans aa (fun k hk h=>((d' V) k h).elim id (fun h=>by omega)));have aN:Hid (∀k,aO' w ay az k->aO' w b z k\/p.heap.size < k):=fun k hk=>(aA k hk).elim (fun h=>(d' V) k h) (fun h=> .inr (by omega));have aO:=z20 aj aa.size;have aP:=m' ((z39 (aa.rest p.heap.size aj (fun h=>((d' V) _ h).elim (fun h=>by have:=(d' aE).lt _ h;omega) (fun h=>by omega)))).trans (d' aq));clear Z aa aA av M O;go_wp2;go_roundw
      case rel=>exact⟨2+1,ay,az,by omega,by go_num,d' ab,d' aM,d' aN,aO,d' aP⟩
      case measure=>simp[intOf]
     ·have M:=m' (show Mq.bitsOf G F[0].toNat (2+1)=Mq.bitsOf G F[0].toNat 2 by simp[Mq.bitsOf,J]);simp only[J,decide_false]at ap;clear J;have ab:=O;rw[<-d' M]at ab;clear M O;go_wp2;go_roundw
      case rel=>exact⟨2+1,aT,aC,by omega,by go_num,d' ab,d' ai,d' V,aj,d' aq⟩
      case measure=>simp[intOf]
   ·have bW:j=3:=(by omega);subst bW;have O:=m' R;have ai:=m' hF;have V:=m' ao;clear R hF ao aU;go_wp2;refine z77 (z65 rfl _ _ _) rfl ?_;rw[<-d' bS];exact⟨rfl,aT,aC,d' O,d' ai,fun k hk=>((d' V) k hk).elim .inl (fun h=> .inr (by omega))⟩
variable{M X aI:Int}{o:z10}
theorem kJ' (h:Qb.proper 2 M X aI o=true):o.size=12:=by
 simp[Qb.proper,Qb.Xh]at h;omega
theorem kK' (h:Qb.proper 4 M X aI o=true):o.size=1/\(0<=X/\X < 3)/\0<=aI/\aI<=2147483647:=by
 simp[Qb.proper,Qb.isStr,Qb.isNum,Qb.Jj]at h;omega
theorem sv' (b:z10) (h:0 < b.size):(b.data.toList.getD 0 0)=b[0]:=by
 have:(0:Nat) < b.data.toList.length:=by simpa using h
 rw[z17,z18 this];rfl
theorem kL' (R:Qk p w y H b z) (k e st q:Int) (F:z10) (J:Qb.proper k e st q F=true) (M:∀s,s < 3->(y.fl s).base+(y.fl s).kept.length<=1000000000000000):
  Calls prog 174 #[.pointer (some ⟨w,0,none⟩), .agg #[.int .i64 k, .int .i64 e, .int .i64 st, .int .i64 q, .string F]] p fun x w'=>x= .returned (.tuple #[])/\aU' p w' w (y.Qx k e st q F) H b z:=by
 unfold Mq.Ag.Qx;by_cases h1:k=5/\(y.Qa:Int) < e
 ·rw[if_pos h1];exact iC' R k e st q F h1.1 h1.2
 rw[if_neg h1];by_cases G:e=y.Qa
 ·rw[if_neg (by simpa using G)];by_cases h5:k=5
  ·rw[if_pos h5];exact iE' R k e st q F h5 G
  rw[if_neg h5];by_cases h2:k=2
  ·rw[if_pos h2];exact gH' R k e st q F h2 G (kJ' (h2 ▸ J)) M
  rw[if_neg h2];by_cases h4:k=4
  ·rw[if_pos h4];obtain⟨hb,⟨O,V⟩,Q,Y⟩:=kK' (h4 ▸ J);obtain⟨s,rfl⟩:=z73 O;obtain⟨qn,rfl⟩:=z73 Q;by_cases I:y.Qd=false
   ·rw[if_pos (.inl I)];exact iF' R k e s qn F h4 G I
   ·have hw':y.Qd=true:=(by simpa using I);by_cases hl:min qn ((y.fl s).base+(y.fl s).kept.length) < (y.fl s).base
    ·rw[if_pos (Or.inr (show y.ackSeq (s:Int).toNat (qn:Int) < (y.fl (s:Int).toNat).base from hl))];exact jT' R k e s qn F h4 G hw' (by omega) (by omega) hl
    ·rw[if_neg (show ¬ (y.Qd=false\/y.ackSeq (s:Int).toNat (qn:Int) < (y.fl (s:Int).toNat).base) from fun h=>h.elim I hl),sv' F (by omega)];exact kI' R k e s qn F h4 G hw' (by omega) (by omega) (by omega) hl M
  ·rw[if_neg h4];exact jS' R k e st q F h5 h2 h4 G
 ·rw[if_pos (by simpa using G)];by_cases h5:k=5
  ·exact hO' R k e st q F h5 (fun h=>h1 ⟨h5,h⟩) G
  ·exact iD' R k e st q F h5 G
theorem Qk.ticked (R:Qk p w y H b z) (n:Nat) (hn:n<=1000000000000000):Qk (p.setCell ⟨w,1,none⟩ (.int .i64 n)) w {y with Qf:=n} H b z:=by
 have J:=Q' p w 1 (.int .i64 n);exact⟨by have:=aa' (j:=1) (v:= .int .i64 n) R.blk;rw[this];rfl,fun t F=>(R.kept t F).far J (fun g G I=>(R.kept t F).ne R.blk (by decide) (by rw[G,I])),fun t F=>(R.held t F).far J (fun g G I=>(R.held t F).ne R.blk (by decide) (by rw[G,I])),R.apk,R.aph,R.ep,hn,R.bs,R.kl,R.hl⟩
theorem ol' (h:w<=2147483647):Qb.proper 1 w 0 0 ⟨#[]⟩=true:=by
 have h2:(w:Int)<=2147483647:=by omega
 have h3:(⟨#[]⟩:z10).size=0:=rfl;simp[Qb.proper,Qb.isNum,h2,h3]
def er' (l:List (List UInt8)):List Value:=l.map fun x=> .string ⟨x.toArray⟩
theorem pS' (l:List (List UInt8)):(er' l).length=l.length:=by simp[er']
theorem kM' (R:Qk p w y H b z) (hd:H.dead=false) (F:y.fenced=true) (I:y.Qf+1<=1000000000000000):
  Calls prog 119 #[.pointer (some ⟨w,0,none⟩)] p fun x w'=>x= .returned (.slice none 0 0)/\aU' p w' w {y with Qf:=y.Qf+1} H b z:=by
 have c1:=y' (i:=1) R.blk;have c3:=y' (i:=3) R.blk;have c4:=y' (i:=4) R.blk;have f1:=H' (i:=1) R.blk;simp[ai',hd,F]at c1 c3 c4;have J:=m' R;have M:=m' I;have G:(y.Qf:Int)+1=((y.Qf+1:Nat):Int):=by omega
 have O:=m' G;clear R hd F G;go_enter func119,ntmps119;go_wp2;go_ret;rw[d' O];exact⟨rfl,bM' ((d' J).ticked _ (d' M)) ((Q' p w 1 _).mono (fun k _ h=> .inl h))⟩
theorem ms' (R:Qk p w y H b z) (hd:H.dead=false) (I:y.fenced=false) (J:y.Qd=false) (ad:y.Qa<=2147483647) (ah:y.Qf+1<=1000000000000000):
  Calls prog 119 #[.pointer (some ⟨w,0,none⟩)] p fun x w'=>∃v,x= .returned v/\w'.ownsRow p.heap.size 9 1 v 1 (er' [Qb.bytes 1 y.Qa 0 0 []])/\aU' p w' w {y with Qf:=y.Qf+1} H b z:=by
 obtain⟨c0,c1,c2,c3,c4⟩:=dK' R.blk;have f1:=H' (i:=1) R.blk;simp[ai',hd,I,J]at c0 c1 c2 c3 c4;have ai:=m' R;have aj:=m' ah;have M:(y.Qf:Int)+1=((y.Qf+1:Nat):Int):=by omega
 have ak:=m' M;have ao:=fun p=>m' (bY' 1 y.Qa 0 0 ⟨#[]⟩ p (ol' ad));obtain⟨i0,hi,ap,aq,au⟩:=au' bQ';have av:=m' I;have ax:=m' J;clear R hd I J M;go_enter func119,ntmps119;go_upto_region 5 with fail;refine G' (fun x=>Qk x w {y with Qf:=y.Qf+1} H b z/\Far (aO' w b z) p x) ⟨by rw[d' ak];exact(d' ai).ticked _ (d' aj),(Q' p w 1 _).mono (fun k _ h=> .inl h)⟩ ?_;clear c0 c1 c2 c3 c4 f1;rintro x ⟨F,O⟩;have c0:=y' (i:=0) F.blk;have c2:=y' (i:=2) F.blk;have c3:=y' (i:=3) F.blk;simp[ai',d' av,d' ax]at c0 c2 c3;have ay:=m' F;have Q:=m' O;clear F O;go_upto_region 9 with (go_at_call 51;refine(d' (ao _)).mono ?_;rintro aD G ⟨rfl,V⟩;have Y:=m' V;clear V);go_wp2_with (at_builtin;refine z62 _ rfl (.tmp 39) (.tmp 41) 45 rfl p.heap.size 9 i0 (.string ⟨#[]⟩) 1 16 underlying45 hi ap aq au rfl (by decide) (.slice none 0 0) 0 [] rfl (z27 _ _ _ _) ⟨G.heap.size,0,none⟩ 1 1 (er' [Qb.bytes 1 y.Qa 0 0 []]) rfl rfl aq' (by intro u hu;simp[er']at hu;subst hu;rfl) (by unfold maxLen;omega) (by omega) (by have:=(d' Q).size;have:=(d' Y).size;simp;omega) ?_;intro v' az Z aa _;have ab:=(((z11 G.heap.size G).alloc (z13 _) (.cells (er' [Qb.bytes 1 y.Qa 0 0 []]).toArray 9)).trans (Y' (B:=G.heap.size) aa (by simp) (fun g aA=>by cases aA)));have aB:=m' Z;have aC:=m' ab;clear Z aa ab);go_ret;have ac:Far (fun _=>False) x az:=(C' (E:=fun _=>False) (d' Y)).trans (C' (E:=fun _=>False) (d' aC)) (fun _ _ h=>h);exact⟨_,rfl,by simpa using d' aB,bM' ((d' ay).far ac (fun _ _ h=>h)) ((d' Q).trans ac (fun _ _ h=>h.elim))⟩
theorem aI' (e s:Nat) (f:Mq.Jl) (t:Nat):∀i,(Mq.sendTo e s f t i).1.length=f.kept.length
 |0=>rfl
 |i+1=>by
  have:=aI' e s f t i;simp only[Mq.sendTo];split
  ·exact this
  ·split
   ·simp[this]
   ·exact this
theorem gI' (e s:Nat) (f:Mq.Jl) (t:Nat):∀i j,i<=j->(Mq.sendTo e s f t i).1[j]? =f.kept[j]?
 |0,_,_=>rfl
 |i+1,j,h=>by
  have:=gI' e s f t i j (by omega);simp only[Mq.sendTo];split
  ·exact this
  ·split
   ·simp only
    rw[zv' (by omega)];exact this
   ·exact this
variable{bC:Mq.Jl}
theorem dC' {e s:Nat} {t:Nat} (h:w < bC.kept.length) (hd:Mq.due bC t w bC.kept[w].2=false):Mq.sendTo e s bC t (w+1)=Mq.sendTo e s bC t w:=by
 simp only[Mq.sendTo,List.getElem?_eq_getElem h,hd];rfl
theorem dD' {e s:Nat} {t:Nat} (h:w < bC.kept.length) (hd:Mq.due bC t w bC.kept[w].2=true):
  Mq.sendTo e s bC t (w+1)=((Mq.sendTo e s bC t w).1.set w (bC.kept[w].1,t),(Mq.sendTo e s bC t w).2++[Qb.bytes 3 e s (bC.base+1+w:Nat) bC.kept[w].1.data.toList]):=by
 simp only[Mq.sendTo,List.getElem?_eq_getElem h,hd];rfl
variable{a q:Nat}
theorem bi' {i:Nat} (h:bC.kept.length<=i):Mq.sendTo w a bC q (i+1)=Mq.sendTo w a bC q i:=by
 simp only[Mq.sendTo,List.getElem?_eq_none_iff.2 h]
theorem ev' {e s:Nat} {f:Mq.Jl} {t i:Nat} (h:f.kept.length<=i\/i=4) (h4:i<=4):Mq.sendTo e s f t 4=Mq.sendTo e s f t i:=by
 rcases h with h|h
 ·obtain rfl|rfl|rfl|rfl|rfl:i=0\/i=1\/i=2\/i=3\/i=4:=by omega
  ·rw[bi' (i:=3) (by omega),bi' (i:=2) (by omega),bi' (i:=1) (by omega),bi' (i:=0) (by omega)]
  ·rw[bi' (i:=3) (by omega),bi' (i:=2) (by omega),bi' (i:=1) (by omega)]
  ·rw[bi' (i:=3) (by omega),bi' (i:=2) (by omega)]
  ·rw[bi' (i:=3) (by omega)]
  ·rfl
 ·rw[h]
theorem pT' (e t:Nat) (f:Nat->Mq.Jl):Mq.Xe e t f 0=f:=by funext u;simp[Mq.Xe]
theorem pU' (e t:Nat) (f:Nat->Mq.Jl) (s:Nat):Mq.Xe e t f s s=f s:=by simp[Mq.Xe]
theorem jy' (e t:Nat) (f:Nat->Mq.Jl) (s:Nat):Mq.Xe e t f (s+1)=Mq.upd (Mq.Xe e t f s) s {f s with kept:=(Mq.sendTo e s (f s) t 4).1}:=by
 funext u;unfold Mq.Xe Mq.upd;by_cases h:u=s
 ·subst h;simp
 ·by_cases h2:u < s
  ·simp[h,h2,show u < s+1 by omega]
  ·simp[h,h2,show ¬u < s+1 by omega]
variable{cK:z10×Nat}
theorem fG' {i:Nat} (h:bJ[i]? =some cK):(aK' bJ)[i * 2]? =some (.string cK.1):=by
 obtain⟨hi,rfl⟩:=z28.1 h;exact eF' bJ i hi
theorem fH' {i:Nat} (h:bJ[i]? =some cK):(aK' bJ)[i * 2+1]? =some (.int .i64 (cK.2:Nat)):=by
 obtain⟨hi,rfl⟩:=z28.1 h;exact eG' bJ i hi
theorem uA' (l:List (List UInt8)) (x:List UInt8):er' (l++[x])=er' l++[.string ⟨x.toArray⟩]:=by simp[er']
theorem pV' (I:w<=2147483647) (hs:a < 3) (h0:0 < q) (J:q<=2147483647) (hb:o.size<=20):Qb.proper 3 w a q o=true:=by
 have z:(w:Int)<=2147483647:=by omega
 have F:(a:Int) < 3:=by omega
 have G:(q:Int)<=2147483647:=by omega
 have H:¬q=0:=by omega
 simp[Qb.proper,Qb.isNum,Qb.isStr,z,F,G,H,hb]
structure zx' (x:World) (p s:Nat) (base:Nat) (kvs:Value) (len cap g o j:Nat) (b:z10) (n:Nat) (ep tk:Nat):Prop where
 d0:x.cell? ⟨p,5+s * 3,none⟩=some (.int .i64 base)
 d1:x.cell? ⟨p,5+s * 3+1,none⟩=some (.slice (some ⟨g,o,none⟩) len cap)
 body:x.cell? ⟨g,o+j * 2,none⟩=some (.string b)
 sent:x.cell? ⟨g,o+j * 2+1,none⟩=some (.int .i64 n)
 free:x.frozen? ⟨g,o+j * 2+1,none⟩=false
 c0:x.cell? ⟨p,0,none⟩=some (.int .i64 ep)
 c1:x.cell? ⟨p,1,none⟩=some (.int .i64 tk)
 glt:g < x.heap.size
 plt:p < x.heap.size
theorem Qk.keptAt {x:World} {p:Nat} {a:Mq.Ag} {r:ah'} {G M:Nat->Value} (R:Qk x p a r G M) (s:Nat) (hs:s < 3) {g o cap j:Nat} (hk:G s= .slice (some ⟨g,o,none⟩) (a.fl s).kept.length cap) {y:z10×Nat} (H:(a.fl s).kept[j]? =some y):
  zx' x p s (a.fl s).base (G s) (a.fl s).kept.length cap g o j y.1 y.2 a.Qa a.Qf:=by
 obtain⟨d0,d1,_⟩:=bR' R s hs;have I:=R.kept s hs;have hj:=(z28.1 H).1;obtain⟨Y,Z,J,_,_,F⟩:=I.shape;obtain⟨g',aa,O,F⟩:=F (by omega);rw[hk]at J d1;injection J with z _ Q;rw[O]at z;injection z with z;injection z with z V;subst z V Q;have hb:=F (j * 2) (by omega);have hn:=F (j * 2+1) (by omega);rw[fG' H]at hb;rw[fH' H]at hn;exact⟨d0,d1,hb,hn,(R.sentStep s hs (i:=j) hk hj 0).2,y' R.blk,y' R.blk,I.lt _ (by rw[hk];rfl),z14 R.blk⟩
theorem om' (R:Qk p w y H b z) (hd:H.dead=false) (ab:y.fenced=false) (aO:y.Qd=true) (ca:y.Qa<=2147483647) (cb:y.Qf+1<=1000000000000000)
  (be:∀s,s < 3->(y.fl s).base+(y.fl s).kept.length<=2147483647) (bf:∀s,s < 3->∀x∈ (y.fl s).kept,x.1.size<=20/\x.2<=1000000000000000):
  Calls prog 119 #[.pointer (some ⟨w,0,none⟩)] p fun x w'=>∃v n,x= .returned v/\w'.ownsRow p.heap.size 9 1 v n (er' (Mq.Zl y.Qa (y.Qf+1) y.fl 3))/\aU' p w' w {y with Qf:=y.Qf+1,fl:=Mq.Xe y.Qa (y.Qf+1) y.fl 3} H b z:=by
 obtain⟨c0,c1,c2,c3,c4⟩:=dK' R.blk;have f1:=H' (i:=1) R.blk;simp[ai',hd,ab,aO]at c0 c1 c2 c3 c4;have I:=m' R;have bg:=m' R;have bh:=m' cb;have bi:(y.Qf:Int)+1=((y.Qf+1:Nat):Int):=by omega
 have cc:=m' bi;obtain⟨i0,hi,cd,ce,cf⟩:=au' bQ';have cg:=m' ab;have ch:=m' aO;have bj:=m' be;have ci:=m' bf;clear R hd ab aO bi be bf;go_enter func119,ntmps119;go_upto_region 5 with fail;refine G' (fun x=>Qk x w {y with Qf:=y.Qf+1} H b z/\Far (aO' w b z) p x) ⟨by rw[d' cc];exact(d' I).ticked _ (d' bh),(Q' p w 1 _).mono (fun k _ h=> .inl h)⟩ ?_;clear c0 c1 c2 c3 c4 f1;rintro x ⟨aC,bk⟩;have c2:=y' (i:=2) aC.blk;have c3:=y' (i:=3) aC.blk;simp[ai',d' cg,d' ch]at c2 c3;have aP:=m' aC;have bl:=m' bk;clear aC bk;obtain⟨tk,aQ⟩:=exq (y.Qf+1);have bm:=m' aQ;rw[<-aQ]at aP;clear aQ;have cI:tk<=1000000000000000:=by have:=d' bh;have:=d' bm;omega
 go_wp2;go_loopw[3,5] (fun v i wr=>∃ (s n:Nat),s<=3/\i= .int .i64 s/\n<=4 * s/\wr.ownsRow p.heap.size 9 1 v n (er' (Mq.Zl y.Qa tk y.fl s))/\Qk wr w {y with Qf:=tk,fl:=Mq.Xe y.Qa tk y.fl s} H b z/\Far (aO' w b z) p wr) (fun _ i _=>3 - (intOf i).toNat)
 case atStart=>exact⟨0,0,by omega,rfl,by omega,z27 _ _ _ _,by rw[pT'];exact d' aP,d' bl⟩
 case round=>
  obtain⟨s,n,hs,rfl,hn,ac,R,hF⟩:=hrel;clear c2 c3 aP bl;by_cases F:s < 3
  ·have bn:(s:Int) < 3:=(by omega);have aD:=m' R;have aE:=m' hF;have aF:=m' ac;clear R hF ac;go_wp2;go_loopw[3,7] (fun v i wr=>∃ (j n2:Nat),j<=4/\j<=(y.fl s).kept.length/\i= .int .i64 j/\n2<=4 * s+j/\wr.ownsRow p.heap.size 9 1 v n2 (er' (Mq.Zl y.Qa tk y.fl s++(Mq.sendTo y.Qa s (y.fl s) tk j).2))/\Qk wr w {y with Qf:=tk,fl:=Mq.upd (Mq.Xe y.Qa tk y.fl s) s {y.fl s with kept:=(Mq.sendTo y.Qa s (y.fl s) tk j).1}} H b z/\Far (aO' w b z) p wr) (fun _ i _=>4 - (intOf i).toNat)
   case atStart=>
    refine⟨0,n,by omega,by omega,rfl,by omega,?_,?_,d' aE⟩
    ·simpa[Mq.sendTo]using d' aF
    ·have:=d' aD;have e:Mq.upd (Mq.Xe y.Qa tk y.fl s) s {y.fl s with kept:=(Mq.sendTo y.Qa s (y.fl s) tk 0).1}=Mq.Xe y.Qa tk y.fl s:=by
      funext u;unfold Mq.upd;split
      ·rename_i h;subst h;rw[pU'];rfl
      ·rfl
     rw[e];exact this
   case round=>
    obtain⟨j,n2,cJ,cK,rfl,cL,ac,R,hF⟩:=hrel;obtain⟨d0,d1,d2⟩:=bR' R s F;simp only[Mq.Ql]at d0;have ap:=R.kept s F;simp only[Mq.Ql,aI']at ap;obtain⟨cM,aj,aR,cN,cj,aG⟩:=ap.shape;have ck:=R.kl s F;simp only[Mq.Ql,aI']at ck;rw[aR]at d1;have aq:=m' aR;clear aD aE aF aR;have O:=m' hF;have Q:=m' ac;have aS:=R.held s F;simp only[Mq.Ql]at aS;have bo:=R.hl s F;simp only[Mq.Ql]at bo;have aT:=us' ((y.fl s).base+1+j) d2 aS (by omega);have cO:(y.fl s).base<=2147483647:=(by have:=(d' bj) s F;omega);have bp:(((y.fl s).base+1+j:Nat):Int)=((y.fl s).base:Int)+1+j:=(by omega);rw[bp]at aT;have V:=m' aT;obtain⟨c0,c1⟩:=cW' R.blk;simp[ai']at c0 c1;have I:=m' R;clear R hF ac aS bo aT bp cj;by_cases J:j < (y.fl s).kept.length
    ·by_cases h4:j < 4
     ·obtain⟨g,o,rfl,aU⟩:=aG (by omega);have ak:=gI' y.Qa s (y.fl s) tk j j (z13 _);rw[z18 J]at ak;have M:=aU (j * 2) (by omega);rw[fG' ak]at M;have Y:wr.cell? ⟨g,o+j * 2+1,none⟩=some (.int .i64 ((y.fl s).kept[j].2:Nat)):=(by have:=aU (j * 2+1) (by omega);rw[fH' ak]at this;exact this);have bq:=m' (fun h=>dC' (e:=y.Qa) (s:=s) (t:=tk) J h);have cl:=m' (fun h=>dD' (e:=y.Qa) (s:=s) (t:=tk) J h);obtain⟨br,cP⟩:=(d' ci) s F _ (z81 J);have cm:=m' br;clear br;have au:Hid (Mq.due (y.fl s) tk j (y.fl s).kept[j].2=(!((y.fl s).held.contains ((y.fl s).base+1+j)) && ((y.fl s).kept[j].2==0||decide ((y.fl s).kept[j].2+4<=tk)))):=rfl;have av:=(d' I).sentStep s F (g:=g) (o:=o) (cap:=aj) (i:=j) (by simp only[Mq.Ql,aI'];exact d' aq) (by simp only[Mq.Ql,aI'];exact J) tk;simp only[Mq.Ql,et']at av;obtain⟨ad,f6⟩:=av;have ax:(Mq.sendTo y.Qa s (y.fl s) tk j).1[j]'(by rw[aI'];exact J)=(y.fl s).kept[j]:=by have:=ak;rw[z18 (by rw[aI'];exact J)]at this;exact mq' this
      rw[ax]at ad;have aV:=m' ad;have cn:Hid (wr.frozen? ⟨g,o+j * 2+1,none⟩=false):=f6;have bt:=m' ak;clear aG aU ak ax ad f6;generalize (y.fl s).kept[j]=cp at *;obtain⟨Z,ah⟩:=cp;cases ay:(y.fl s).held.contains ((y.fl s).base+1+j)
      ·rw[ay]at V au;rcases(by omega:0 < (ah:Int)/\(tk:Int) < (ah:Int)+4\/0 < (ah:Int)/\¬ (tk:Int) < (ah:Int)+4\/¬0 < (ah:Int))with ⟨bu,hl⟩|⟨bu,hl⟩|bu
       ·have G:=m' ((d' bq) (by rw[d' au];simp;omega));clear ay M aV;go_wp2_with (go_at_call 172;refine(d' V).mono ?_;rintro aW w1 ⟨rfl,bw,rfl⟩);go_roundw
        case rel=>
         refine⟨j+1,n2,by omega,by omega,by go_num,by omega,?_,?_,(d' O).trans (C' (E:=fun _=>False) (z41 (z11 _ _) _)) (fun _ _ h=>h.elim)⟩
         ·rw[d' G];exact d' Q
         ·rw[d' G];exact(d' I).far (C' (E:=fun _=>False) (z41 (z11 _ _) _)) (fun _ _ h=>h)
        case measure=>simp[intOf];omega
       all_goals
        have G:=m' ((d' cl) (by rw[d' au];simp;omega));clear ay aV cn;go_upto_region 20 with (go_at_call 172;refine(d' V).mono ?_;rintro aW w1 ⟨rfl,bw,rfl⟩);refine G' (fun x=>Qk x w {y with Qf:=tk,fl:=Mq.upd (Mq.Xe y.Qa tk y.fl s) s {y.fl s with kept:=(Mq.sendTo y.Qa s (y.fl s) tk j).1}} H b z/\x.ownsRow p.heap.size 9 1 u3 n2 (er' (Mq.Zl y.Qa tk y.fl s++(Mq.sendTo y.Qa s (y.fl s) tk j).2))/\Far (aO' w b z) p x)
         ⟨(d' I).far (C' (E:=fun _=>False) (z41 (z11 _ _) _)) (fun _ _ h=>h),d' Q,(d' O).trans (C' (E:=fun _=>False) (z41 (z11 _ _) _)) (fun _ _ h=>h.elim)⟩ ?_
        clear d0 d1 d2 c0 c1 M Y I Q O V ap;rintro cq ⟨aX,bz,bA⟩;have bB:=aX.keptAt s F (g:=g) (o:=o) (cap:=aj) (j:=j) (by simp only[Mq.Ql,aI'];exact d' aq) (y:=(Z,ah)) (by simp only[Mq.Ql];exact d' bt);simp only[Mq.Ql,aI']at bB;obtain⟨d0,d1,M,Y,aH,c0,c1,ao,aa⟩:=bB;have bC:=m' aX;have bD:=m' bA;have aI:=m' bz;clear aX bz bA;refine ab'
         [Ep w (5+s * 3),Ep w (5+s * 3),Ep w (5+s * 3+1),Ev (.slice (some ⟨g,o,none⟩) (y.fl s).kept.length aj),Ei j,Ep w 0,Ep w 0,Ep w 1,Ei tk,Ep g (o+j * 2),Ep g (o+j * 2+1),Et]
         [[6],[1096],[2097],[3098],[7],[0],[6101],[7102],[8103],[4099,5100],[10105],[11106,9104]]
         [97,98,99,100,101,102,103,104,105,106,107,0]
         [96,11,999]
         11 _ rfl rfl ?_ ?_
        ·refine⟨?_,?_,?_,?_,?_,?_,?_,?_,?_,?_,?_,trivial⟩;all_goals
          intro cr x hb ab;have cs:=(hb.cell (p:=⟨w,5+s * 3+1,none⟩) aa).trans d1;have cu:=(hb.cell (p:=⟨w,1,none⟩) aa).trans c1;clear hb d0 d1 M Y c0 c1;simp[I']at ab;try go_simp
          try exact z11 _ _
         all_goals exact⟨rfl,z11 _ _⟩
        ·intro f5 aJ hb az;simp only[ag',List.take]at az;obtain⟨_,_,_,_,_,_,_,_,cv,_,cw,_⟩:=az;have cx:=(hb.cell (p:=⟨g,o+j * 2+1,none⟩) ao).trans Y;have cy:=(hb.frozen (p:=⟨g,o+j * 2+1,none⟩) ao).trans aH;have aK:Far (fun _=>False) cq aJ:=C' hb;have bE:=(d' bC).far aK (fun _ _ h=>h);have av:=bE.sentStep s F (g:=g) (o:=o) (cap:=aj) (i:=j) (by simp only[Mq.Ql,aI'];exact d' aq) (by simp only[Mq.Ql,aI'];exact J) tk;simp only[Mq.Ql,et']at av;obtain⟨aL,_⟩:=av;have ax:(Mq.sendTo y.Qa s (y.fl s) tk j).1[j]'(by rw[aI'];exact J)=(Z,ah):=by have:=d' bt;rw[z18 (by rw[aI'];exact J)]at this;exact mq' this
         rw[ax]at aL;have bF:(Mq.sendTo y.Qa s (y.fl s) tk j).1.set j (Z,tk)=(Mq.sendTo y.Qa s (y.fl s) tk (j+1)).1:=(by rw[d' G]);rw[bF]at aL;have aY:aO' w b z g:= .inr ⟨s,F, .inl (by rw[d' aq];rfl)⟩;have bG:=((d' bD).trans aK (fun _ _ h=>h.elim)).trans (Q' aJ g (o+(j * 2+1)) (.int .i64 tk)) (fun k _ e=>by rw[e];exact aY);have cz:=m' (fun k hk=>(z15 (d' aI) k hk).1);have bH:=L' (w':=aJ.setCell ⟨g,o+(j * 2+1),none⟩ (.int .i64 tk)) (L' (w':=aJ) (d' aI) (fun k hk=>aK.rest k (z15 (d' aI) k hk).2 (fun h=>h))) (fun k hk=>P' (by have h1:=(d' cz) k hk;have h2:=(d' bg).lt g aY;omega));have bI:=m' aL;have bJ:=m' bG;have bK:=m' bH;clear hb aK bE aL bG bH ax aY bF d0 d1 M Y aH c0 c1 ao aa bC bD aI;simp only[O',cv,cw];go_simp;go_upto_region 21 with fail;refine G' (fun x=>Qk x w {y with Qf:=tk,fl:=Mq.upd (Mq.Xe y.Qa tk y.fl s) s {y.fl s with kept:=(Mq.sendTo y.Qa s (y.fl s) tk (j+1)).1}} H b z/\x.ownsRow p.heap.size 9 1 u3 n2 (er' (Mq.Zl y.Qa tk y.fl s++(Mq.sendTo y.Qa s (y.fl s) tk j).2))/\Far (aO' w b z) p x) ⟨d' bI,d' bK,d' bJ⟩ ?_;clear cx cy bI bK bJ;rintro cA ⟨ad,bL,bM⟩;have bN:=ad.keptAt s F (g:=g) (o:=o) (cap:=aj) (j:=j) (by simp only[Mq.Ql,aI'];exact d' aq) (y:=(Z,tk)) (by simp only[Mq.Ql];rw[d' G];simp only;rw[zu' (by rw[aI'];exact J)]);simp only[Mq.Ql,aI']at bN;obtain⟨d0,d1,M,Y,aH,c0,c1,ao,aa⟩:=bN;have bO:=m' ad;have bP:=m' bM;have aZ:=m' bL;clear ad bL bM;obtain⟨aM,ba⟩:=exq (Qb.bytes 3 y.Qa s ((y.fl s).base+1+j:Nat) Z.data.toList);have cB:=m' ba;have bb:=fun p=>m' (bY' 3 y.Qa s ((y.fl s).base+1+j:Nat) Z p (pV' ca F (by omega) (by have:=(d' bj) s F;omega) (d' cm)));rw[<-ba,show(((y.fl s).base+1+j:Nat):Int)=((y.fl s).base:Int)+1+j by omega]at bb;clear ba;have bQ:IntKind.i64.wrap (((y.fl s).base:Int)+1)=((y.fl s).base:Int)+1:=(by rw[z36];omega);have bR:IntKind.i64.wrap (((y.fl s).base:Int)+1+j)=((y.fl s).base:Int)+1+j:=(by rw[z36];omega);refine ae'
          [Ep w 0,Ep w 0,Ep w 0,Ei y.Qa,Ei s,Ep w (5+s * 3),Ep w (5+s * 3),Ep w (5+s * 3),Ei ((y.fl s).base),Ei (((y.fl s).base:Int)+1),Ei j,Ei (((y.fl s).base:Int)+1+j),Ep w (5+s * 3),Ep w (5+s * 3),Ep w (5+s * 3+1),Ev (.slice (some ⟨g,o,none⟩) (y.fl s).kept.length aj),Ei j,Ep g (o+j * 2),Ep g (o+j * 2),Ev (.string Z),Ev (.agg #[.int .i64 3, .int .i64 y.Qa, .int .i64 s, .int .i64 (((y.fl s).base:Int)+1+j), .string Z]),Ev (.string ⟨aM.toArray⟩),Ev (.string ⟨aM.toArray⟩)]
          [[0],[1107],[2108],[3109],[5],[6],[6112],[7113],[8114],[9115],[7],[10116,11117],[6],[13119],[14120],[15121],[7],[16122,17123],[18124],[19125],[4110,5111,12118,20126],[21127],[22128]]
          [108,109,110,111,112,113,114,115,116,117,118,119,120,121,122,123,124,125,126,127,128,129,11]
          [10,1,96,22,999] ?_ ?_
         ·refine⟨?_,?_,?_,?_,?_,?_,?_,?_,?_,?_,?_,?_,?_,?_,?_,?_,?_,?_,?_,?_,?_,?_,?_,trivial⟩;all_goals
           intro cr x hb ab;have cQ:=(hb.cell (p:=⟨w,5+s * 3,none⟩) aa).trans d0;have cs:=(hb.cell (p:=⟨w,5+s * 3+1,none⟩) aa).trans d1;have cu:=(hb.cell (p:=⟨w,0,none⟩) aa).trans c0;have cR:=(hb.cell (p:=⟨g,o+j * 2,none⟩) ao).trans M;clear hb d0 d1 M Y c0 c1;simp[I']at ab;try go_simp
           try exact z11 _ _
          all_goals first
           |exact⟨rfl,z11 _ _⟩
           |(rw[bQ];exact⟨rfl,z11 _ _⟩)
           |(rw[bR];exact⟨rfl,z11 _ _⟩)
           |(refine(d' (bb _)).mono ?_;rintro aW w1 ⟨rfl,cC⟩;exact⟨rfl,cC⟩)
         ·intro f7 aA hb az;simp only[ag']at az;obtain⟨_,_,_,_,_,_,_,_,_,_,_,_,_,_,_,_,_,_,_,_,_,_,bS,_⟩:=az;have aN:Far (fun _=>False) cA aA:=C' hb;have cD:=m' ((d' bO).far aN (fun _ _ h=>h));have bT:=m' ((d' bP).trans aN (fun _ _ h=>h.elim));have bU:=m' (L' (w':=aA) (d' aZ) (fun k hk=>aN.rest k (z15 (d' aZ) k hk).2 (fun h=>h)));clear hb aN bO bP aZ d0 d1 M Y aH c0 c1 ao aa bb bQ bR;simp only[O',bS];clear bS;go_wp2_with (at_builtin;refine z62 _ rfl (.tmp 129) (.tmp 131) 45 rfl p.heap.size 9 i0 (.string ⟨#[]⟩) 1 16 underlying45 hi cd ce cf rfl (by decide) u3 n2 (er' (Mq.Zl y.Qa tk y.fl s++(Mq.sendTo y.Qa s (y.fl s) tk j).2)) rfl ((d' bU).alloc _) ⟨aA.heap.size,0,none⟩ 1 1 [.string ⟨aM.toArray⟩] rfl rfl aq' (by intro u hu;simp at hu;subst hu;rfl) (by unfold maxLen;omega) (by omega) (by have:=(d' bT).size;simp;omega) ?_;intro v' cS bc bV _;rw[<-uA']at bc;have bW:=(fun g cE=>(z15 (d' bU) g cE).1);have bX:=(C' (E:=fun k=>u3.ownBlock=some k) ((z11 aA.heap.size aA).alloc (z13 _) (.cells #[.string ⟨aM.toArray⟩] 9))).trans (ba' bV) (fun _ _ h=>h);have cF:=m' bc;have bY:=m' bX;have bZ:=m' bW;clear bc bV bX bW);go_roundw
          case rel=>have cG:∀k,aO' w b z k->¬u3.ownBlock=some k:=fun k hk e=>(by have h1:=(d' bZ) k e;have h2:=(d' bg).lt k hk;omega);refine⟨j+1,n2+1,by omega,by omega,by go_num,by omega,?_,(d' cD).far (d' bY) cG,(d' bT).trans (d' bY) (fun k hk e=>by have h1:=(d' bZ) k e;omega)⟩;rw[d' G,<-z38,<-d' cB];exact d' cF
          case measure=>simp[intOf];omega
      ·rw[ay]at V au;have G:=m' ((d' bq) (by rw[d' au];simp));clear ay M aV;go_wp2_with (go_at_call 172;refine(d' V).mono ?_;rintro aW w1 ⟨rfl,bw,rfl⟩);go_roundw
       case rel=>
        refine⟨j+1,n2,by omega,by omega,by go_num,by omega,?_,?_,(d' O).trans (C' (E:=fun _=>False) (z41 (z11 _ _) _)) (fun _ _ h=>h.elim)⟩
        ·rw[d' G];exact d' Q
        ·rw[d' G];exact(d' I).far (C' (E:=fun _=>False) (z41 (z11 _ _) _)) (fun _ _ h=>h)
       case measure=>simp[intOf];omega
     ·have cH:j=4:=(by omega);have G:=m' (ev' (e:=y.Qa) (s:=s) (f:=y.fl s) (t:=tk) (.inr cH) (by omega));have ai:=I;have bd:=O;have aB:=Q;rw[<-d' G]at ai aB;rw[<-jy']at ai;clear I O Q V aG ap;go_wp2;go_roundw
      case rel=>exact⟨s+1,n2,by omega,by go_num,by omega,d' aB,d' ai,d' bd⟩
      case measure=>simp[intOf];omega
    ·have G:=m' (ev' (e:=y.Qa) (s:=s) (f:=y.fl s) (t:=tk) (i:=j) (.inl (by omega)) (by omega));have ai:=I;have bd:=O;have aB:=Q;rw[<-d' G]at ai aB;rw[<-jy']at ai;clear I O Q V aG ap;go_wp2;go_roundw
     case rel=>exact⟨s+1,n2,by omega,by go_num,by omega,d' aB,d' ai,d' bd⟩
     case measure=>simp[intOf];omega
  ·have bn:s=3:=(by omega);subst bn;have aD:=m' R;have aE:=m' hF;have aF:=m' ac;clear R hF ac;go_wp2;go_ret;rw[<-d' bm];exact⟨_,n,rfl,d' aF,bM' (d' aD) (d' aE)⟩
theorem iG' (B:Nat) (l:List UInt8):bm' (fun v w=>Jg B w v l):=by
 intro v w w' h hb;exact h.keep (fun g F z _ _=>(hb.block g (z14 z)).trans z)
def mkL (k:Nat) (xs:List Value) (u:Value):List Value:=List.replicate k u++xs.drop k
theorem wd' (xs:List Value) (u:Value):mkL 0 xs u=xs:=by simp[mkL]
theorem xY' (xs:List Value) (u:Value):mkL xs.length xs u=List.replicate xs.length u:=by simp[mkL]
variable{t:List Value}
theorem xZ' (u:Value) (h:w < t.length):(mkL w t u).set w u=mkL (w+1) t u:=by
 unfold mkL;rw[zl' _ _ (by simp),z55,xV',xX' h,List.set_cons_zero,List.replicate_succ',z38];rfl
theorem ya' (u:Value) (h:w < t.length):(mkL w t u)[w]? =some t[w]:=by
 unfold mkL;rw[z29 (by simp),z55,xV',z83,vu',z18 h]
variable{j:TypeId}
theorem gJ' {i:Nat} (h:p.ownsRow 0 j 1 (.slice (some ⟨w,0,none⟩) a q) a t) (u:Value):
  (p.setCell ⟨w,i,none⟩ u).ownsRow 0 j 1 (.slice (some ⟨w,0,none⟩) a q) a (t.set i u)/\Far (fun k=>(Value.slice (some ⟨w,0,none⟩) a q).ownBlock=some k) p (p.setCell ⟨w,i,none⟩ u):=by
 obtain⟨h1,h2⟩:=World.ownsRow.stored h i u;exact⟨h1,ba' h2⟩
theorem on' (p:Nat) (w:World) (aE aF fv:Value) (ah aj:List Value) (l:List UInt8) (m:Int) (t bV:z10)
  (av:w.heap[p]? =some (.cells #[aE,aF,fv, .int .i64 m, .string t, .string bV] 110 (0,0)))
  (aG:w.ownsRow 0 9 1 aE ah.length ah) (aV:w.ownsRow 0 5 1 aF l.length (bv l)) (aL:w.ownsRow 0 44 1 fv aj.length aj)
  (bW:ah.length<=140737488354000) (cp:l.length<=140737488354000) (z3:aj.length<=140737488354000) (z4:t.size<=3):
  Calls prog 115 #[.pointer (some ⟨p,0,none⟩)] w fun r w'=>r= .returned (.tuple #[])/\∃ (V:List UInt8) (J:List Value),V.length=l.length/\J.length=aj.length/\
   w'.ownsRow 0 9 1 aE ah.length (List.replicate ah.length (.string t))/\w'.ownsRow 0 5 1 aF l.length (bv V)/\w'.ownsRow 0 44 1 fv aj.length J/\(∀f∈J,Jg w.heap.size w' f t.data.toList)/\
   Far (fun k=>aE.ownBlock=some k\/aF.ownBlock=some k\/fv.ownBlock=some k) w w':=by
 have bu:aE.ownBlock≠some p:=av' aG av (by decide);have bw:aF.ownBlock≠some p:=av' aV av (by decide);have bz:fv.ownBlock≠some p:=av' aL av (by decide);obtain⟨ax,ai,bA,bX,cq,bB⟩:=Row.shape (A:=fun _=>True) ⟨aG,fun _ _=>trivial⟩;obtain⟨F,aW⟩:=exq (ah.length);obtain⟨Z,aX⟩:=exq (aj.length);rw[<-aW]at bA aG bX bW ⊢;rw[<-aX]at aL z3 ⊢;subst bA;have c0:=y' (i:=0) av;simp at c0;have cr:=z14 av;have aY:=m' av;have aZ:=m' aG;have aH:=m' aV;have az:=m' aL;have bY:=m' bB;have aM:=m' aW;have ba:=m' aX;have bb:=m' bu;have bc:=m' bw;have bC:=m' bz;have n1:F<=9223372036854775807:=by omega
 clear av aG aV aL bB aW aX bu bw bz c0;go_enter func115,ntmps115;go_wp2;go_loopw[2] (fun i wr=>∃k:Nat,k<=F/\i= .int .i64 k/\wr.ownsRow 0 9 1 (.slice ax F ai) F (mkL k ah (.string t))/\Far (fun k=>(Value.slice ax F ai).ownBlock=some k) w wr) (fun i _=>F - (intOf i).toNat)
 case atStart=>exact⟨0,by omega,rfl,by rw[wd'];exact d' aZ,Far.refl _ _⟩
 case round=>
  obtain⟨k,hk,rfl,z,hF⟩:=hrel;have H:=hF.blk (d' aY) (d' bb);have c0:=y' (i:=0) H;have c4:=y' (i:=4) H;simp at c0 c4;have ak:=z14 H;have bd:=m' H;clear H;by_cases bD:k < F
  ·have aN:k < ah.length:=(by have:=d' aM;omega);obtain⟨g,rfl,_,_⟩:=(d' bY) (by have:=d' aM;omega);have M:=z59 z k (by omega);rw[ya' _ aN]at M;have ao:=xO' z k;have ap:=(z15 z g rfl).2;have I:=m' z;have O:=m' hF;clear z hF;generalize ah[k]=old at M;go_wp2;refine ab'
    [Ep p 0,Ep p 0,Ep p 0,Ev (.slice (some ⟨g,0,none⟩) F ai),Ei k,Ep p 0,Ep p 0,Ep p 4,Ev (.string t),Ep g k,Et]
    [[0],[1014],[2015],[3016],[2],[0],[6019],[7020],[8021],[4017,5018],[10023,9022]]
    [15,16,17,18,19,20,21,22,23,24,0]
    [14,10,999]
    10 _ rfl rfl ?_ ?_ (hst:=by repeat' (first|exact V' _|exact iG' _ _|exact aj'|exact trivial|apply z12))
   ·refine⟨?_,?_,?_,?_,?_,?_,?_,?_,?_,?_,trivial⟩;all_goals
     intro b x hb ay;have be:=(hb.cell (p:=⟨p,0,none⟩) ak).trans c0;have bZ:=(hb.cell (p:=⟨p,4,none⟩) ak).trans c4;have aO:=hb.size;clear hb;simp[I']at ay;try go_simp
     try exact z11 _ _
    all_goals first
     |exact⟨rfl,z11 _ _⟩
   ·intro f5 Q hb aq;simp only[ag',List.take]at aq;obtain⟨_,_,_,_,_,_,_,_,ca,cb,_⟩:=aq;have be:=(hb.cell (p:=⟨g,k,none⟩) ap).trans M;have bE:=(hb.frozen (p:=⟨g,k,none⟩) ap).trans ao;have au:Far (fun k=>(Value.slice (some ⟨g,0,none⟩) F ai).ownBlock=some k) wr Q:=C' hb;have aa:=L' (w':=Q) (d' I) (fun g' G=>hb.block g' (z15 (d' I) g' G).2);obtain⟨ab,Y⟩:=gJ' (i:=k) aa (.string t);rw[xZ' _ aN]at ab;have aA:=m' ab;have aB:=m' (((d' O).trans au (fun _ _ h=>h)).trans Y (fun _ _ h=>h));clear hb au aa ab Y c0 c4 M ao;simp only[O',ca,cb];go_simp;go_wp2;go_roundw
    case rel=>exact⟨k+1,by omega,by go_num,d' aA,d' aB⟩
    case measure=>simp[intOf];omega
  ·have bf:F=k:=(by omega);subst bf;rw[d' aM,xY',<-d' aM]at z;have I:=m' z;have O:=m' hF;have bF:=hF.own (d' aH) (fun g aP e=>aG' (d' aH) (d' aZ) (by decide) aP e);have bg:=m' bF;clear z hF bF;obtain⟨aQ,aC,bh,cc,cs,bG⟩:=Row.shape (A:=fun _=>True) ⟨by have:=d' aH;rw[<-Z' l]at this;exact this,fun _ _=>trivial⟩;rw[Z']at bh cc;have cd:=m' bG;have bi:=m' bh;have n2:l.length<=9223372036854775807:=(by omega);clear bG bh;rw[d' bi]at bg bc aH;go_wp2;go_loopw[3] (fun i wr=>∃ (k:Nat) (V:List UInt8),k<=l.length/\i= .int .i64 k/\V.length=l.length/\wr.ownsRow 0 5 1 (.slice aQ l.length aC) l.length (bv V)/\wr.ownsRow 0 9 1 (.slice ax F ai) F (List.replicate F (.string t))/\Far (fun k=>(Value.slice ax F ai).ownBlock=some k\/(Value.slice aQ l.length aC).ownBlock=some k) w wr) (fun i _=>l.length - (intOf i).toNat)
   case atStart=>exact⟨0,l,by omega,rfl,rfl,d' bg,d' I,(d' O).mono (fun _ _ h=> .inl h)⟩
   case round=>
    obtain⟨k,V,hk,rfl,bH,z,ac,hF⟩:=hrel;clear bg I O bd;have H:=hF.blk (d' aY) (fun e=>e.elim (d' bb) (d' bc));rw[d' bi]at H;have c1:=y' (i:=1) H;have c3:=y' (i:=3) H;simp at c1 c3;have ak:=z14 H;have bd:=m' H;have bj:=m' bH;clear H bH;by_cases bD:k < l.length
    ·obtain⟨g,rfl,_,_⟩:=(d' cd) (by rw[Z'];omega);have M:=z59 z k (by omega);rw[eb' (by have:=d' bj;omega)]at M;have ao:=xO' z k;have ap:=(z15 z g rfl).2;have ce:Hid (∀g',(Value.slice ax F ai).ownBlock=some g'->¬ (Value.slice (some ⟨g,0,none⟩) l.length aC).ownBlock=some g'):=fun g' G e=>aG' ac z (by decide) G e;have I:=m' z;have ad:=m' ac;have O:=m' hF;clear z hF ac;generalize ((V.getD k 0).toNat:Int)=old at M;have bI:=jn' m k;have cu:(k:Int) < 9223372036854775808:=(by omega);go_wp2;refine ab'
      [Ep p 0,Ep p 0,Ep p 1,Ev (.slice (some ⟨g,0,none⟩) l.length aC),Ei k,Ep p 0,Ep p 0,Ep p 3,Ei m,Ei k,Ev (.int .u8 (nh' m k)),Ep g k,Et]
      [[0],[1033],[2034],[3035],[3],[0],[6038],[7039],[8040],[3],[9041,10042],[4036,5037],[12044,11043]]
      [34,35,36,37,38,39,40,41,42,43,44,45,0]
      [33,12,999]
      12 _ rfl rfl ?_ ?_ (hst:=by repeat' (first|exact V' _|exact iG' _ _|exact aj'|exact trivial|apply z12))
     ·refine⟨?_,?_,?_,?_,?_,?_,?_,?_,?_,?_,?_,?_,trivial⟩;all_goals
       intro b x hb ay;have cv:=(hb.cell (p:=⟨p,1,none⟩) ak).trans c1;have cw:=(hb.cell (p:=⟨p,3,none⟩) ak).trans c3;have aO:=hb.size;clear hb;simp[I']at ay;try go_simp
       try exact z11 _ _
      all_goals first
       |exact⟨rfl,z11 _ _⟩
       |(refine(pB' _ _ _).mono ?_;rintro r w1 ⟨rfl,rfl⟩;exact⟨rfl,z11 _ _⟩)
     ·intro f5 Q hb aq;simp only[ag',List.take]at aq;obtain⟨_,_,_,_,_,_,_,_,_,_,cf,cg,_⟩:=aq;have be:=(hb.cell (p:=⟨g,k,none⟩) ap).trans M;have bE:=(hb.frozen (p:=⟨g,k,none⟩) ap).trans ao;have au:Far (fun _=>False) wr Q:=C' hb;have aa:=L' (w':=Q) (d' I) (fun g' G=>hb.block g' (z15 (d' I) g' G).2);have aD:=L' (w':=Q) (d' ad) (fun g' G=>hb.block g' (z15 (d' ad) g' G).2);obtain⟨ab,Y⟩:=gJ' (i:=k) aa (.int .u8 (nh' m k));rw[<-zs' _ _ _ bI.1 bI.2]at ab;have aI:=Y.own aD (fun g' G=>(d' ce) g' G);have aA:=m' ab;have aR:=m' aI;have aB:=m' (((d' O).trans au (fun _ _ h=>h.elim)).trans Y (fun _ _ h=> .inr h));clear hb au aa aD ab aI Y c1 c3 M ao;simp only[O',cf,cg];go_simp;go_wp2;go_roundw
      case rel=>exact⟨k+1,_,by omega,by go_num,by have:=d' bj;simp;omega,d' aA,d' aR,d' aB⟩
      case measure=>simp[intOf];omega
    ·have I:=m' z;have ad:=m' ac;have O:=m' hF;have bJ:=hF.own (d' az) (fun g aP e=>e.elim (fun e=>aG' (d' az) (d' aZ) (by decide) aP e) (fun e=>aG' (d' az) (d' aH) (by decide) aP e));have bk:=m' bJ;clear z hF ac bJ;obtain⟨bK,bl,bm,ch,cx,bn⟩:=Row.shape (A:=fun _=>True) (show Row (fun _=>True) w 44 fv aj from⟨by have:=d' az;rw[d' ba]at this;exact this,fun _ _=>trivial⟩);rw[<-d' ba]at bm ch bn;have ci:=m' bn;have bo:=m' bm;have cy:Z<=9223372036854775807:=(by omega);clear bn bm;rw[d' bo]at bk bC az;go_wp2;go_loopw[4] (fun i wr=>∃ (k:Nat) (J:List Value),k<=Z/\i= .int .i64 k/\J.length=Z/\(∀j (hj:j < J.length),j < k->Jg w.heap.size wr J[j] t.data.toList)/\wr.ownsRow 0 44 1 (.slice bK Z bl) Z J/\(∃V:List UInt8,V.length=l.length/\wr.ownsRow 0 5 1 (.slice aQ l.length aC) l.length (bv V))/\wr.ownsRow 0 9 1 (.slice ax F ai) F (List.replicate F (.string t))/\Far (fun k=>(Value.slice ax F ai).ownBlock=some k\/(Value.slice aQ l.length aC).ownBlock=some k\/(Value.slice bK Z bl).ownBlock=some k) w wr) (fun i _=>Z - (intOf i).toNat)
     case atStart=>exact⟨0,aj,by omega,rfl,(d' ba).symm,fun j hj h=>absurd h (by omega),d' bk,⟨V,d' bj,d' I⟩,d' ad,(d' O).mono (fun _ _ h=>h.elim .inl (fun h=> .inr (.inl h)))⟩
     case round=>
      obtain⟨k,J,hk,rfl,bL,bM,z,aS,ac,hF⟩:=hrel;clear bk I ad O bd;have H:=hF.blk (d' aY) (fun e=>e.elim (d' bb) (fun e=>e.elim (d' bc) (d' bC)));rw[d' bo]at H;have c2:=y' (i:=2) H;have c4:=y' (i:=4) H;simp at c2 c4;have ak:=z14 H;have aT:=m' bL;have bN:=m' bM;clear H bL bM;by_cases bD:k < Z
      ·obtain⟨g,rfl,_,_⟩:=(d' ci) (by omega);have aN:k < J.length:=(by have:=d' aT;omega);have M:=z59 z k (by omega);rw[z18 aN]at M;have ao:=xO' z k;have ap:=(z15 z g rfl).2;have cj:Hid (g < w.heap.size):=(z15 (d' az) g rfl).2;have I:=m' z;have bp:=m' aS;have ad:=m' ac;have O:=m' hF;clear z hF ac aS;generalize J[k]=old at M;go_wp2;refine ab'
        [Ep p 0,Ep p 0,Ep p 2,Ev (.slice (some ⟨g,0,none⟩) Z bl),Ei k,Ep p 0,Ep p 0,Ep p 4,Ev (.string t),fun v x=>Jg wr.heap.size x v t.data.toList,Ep g k,Et]
        [[0],[1054],[2055],[3056],[4],[0],[6059],[7060],[8061],[9062],[4057,5058],[11064,10063]]
        [55,56,57,58,59,60,61,62,63,64,65,0]
        [54,11,999]
        11 _ rfl rfl ?_ ?_ (hst:=by repeat' (first|exact V' _|exact iG' _ _|exact aj'|exact trivial|apply z12))
       ·refine⟨?_,?_,?_,?_,?_,?_,?_,?_,?_,?_,?_,trivial⟩;all_goals
         intro b x hb ay;have cz:=(hb.cell (p:=⟨p,2,none⟩) ak).trans c2;have bZ:=(hb.cell (p:=⟨p,4,none⟩) ak).trans c4;obtain⟨cA,cB,cC,cD,bO,bP⟩:=fz' x t (by omega);have aO:=hb.size;clear hb;simp[I']at ay;try go_simp
         try exact z11 _ _
        all_goals first
         |exact⟨rfl,z11 _ _⟩
         |exact⟨_,rfl,bO.mono aO⟩
         |exact⟨⟨_,rfl,bO.mono aO⟩,bP⟩
         |exact bP
       ·intro f5 Q hb aq;simp only[ag',List.take]at aq;obtain⟨_,_,_,_,_,_,_,_,_,bq,ck,_⟩:=aq;obtain⟨cE,cF,cG,cH,bQ,_⟩:=id bq;have be:=(hb.cell (p:=⟨g,k,none⟩) ap).trans M;have bE:=(hb.frozen (p:=⟨g,k,none⟩) ap).trans ao;have au:Far (fun _=>False) wr Q:=C' hb;have aa:=L' (w':=Q) (d' I) (fun g' G=>hb.block g' (z15 (d' I) g' G).2);have aD:=L' (w':=Q) (d' ad) (fun g' G=>hb.block g' (z15 (d' ad) g' G).2);obtain⟨br,aU,aJ⟩:=d' bp;have bt:=L' (w':=Q) aJ (fun g' G=>hb.block g' (z15 aJ g' G).2);obtain⟨ab,Y⟩:=gJ' (i:=k) aa (f5 63);have aI:=Y.own aD (fun g' G e=>aG' aD aa (by decide) G e);have bR:=Y.own bt (fun g' G e=>aG' bt aa (by decide) G e);have cl:=(d' O).size;have bS:Hid (∀j (hj:j < (J.set k (f5 63)).length),j < k+1->Jg w.heap.size (Q.setCell ⟨g,k,none⟩ (f5 63)) (J.set k (f5 63))[j] t.data.toList):=by
         intro j hj cI;have bT:∀g' aK,Q.heap[g']? =some aK->w.heap.size<=g'->(∃C fr,aK= .cells C 5 fr)->(Q.setCell ⟨g,k,none⟩ (f5 63)).heap[g']? =some aK:=fun g' aK h1 h2 _=>(P' (by have:=d' cj;omega)).trans h1;by_cases cm:j=k
         ·subst cm;rw[List.getElem_set_self];exact(bq.mono cl).keep bT
         ·rw[List.getElem_set_ne (by omega)];exact(((d' bN) j (by simpa using hj) (by omega)).keep (fun g' aK h1 _ _=>(hb.block g' (z14 h1)).trans h1)).keep bT
        have aA:=m' ab;have aR:=m' aI;have bU:=m' bR;have cn:=m' aU;have aB:=m' (((d' O).trans au (fun _ _ h=>h.elim)).trans Y (fun _ _ h=> .inr (.inr h)));rw[bQ]at aA aR bU aB bS bq;clear hb au aa aD aJ bt ab aI bR Y c2 c4 M ao aU;simp only[O',bQ,ck];go_simp;go_wp2;go_roundw
        case rel=>exact⟨k+1,_,by omega,by go_num,by have:=d' aT;rw[xT'];exact this,d' bS,d' aA,⟨br,d' cn,d' bU⟩,d' aR,d' aB⟩
        case measure=>simp[intOf];omega
      ·have bf:Z=k:=(by omega);subst bf;have I:=m' z;have bp:=m' aS;have ad:=m' ac;have O:=m' hF;clear z hF ac aS;go_wp2;refine z77 (z65 rfl _ _ _) rfl ?_;obtain⟨br,aU,aJ⟩:=d' bp;rw[d' bi,d' bo];refine⟨rfl,br,J,aU,d' aT,d' ad,aJ,d' I,fun f ay=>?_,d' O⟩;obtain⟨j,hj,rfl⟩:=z78.1 ay;exact(d' bN) j hj (by have:=d' aT;omega)
structure jz' (Ok:Nat->Nat->Prop) (E:Nat->Prop) (w x:World) (wb pk:Nat) (as_ ss hv0 t0 b0 f0 hv tv bk fv:Value) (hs:List Nat) (m:Int) (t:z10) (l:List UInt8) (fs:List Value) (k:Nat):Prop where
 wbk:x.heap[wb]? =some (.cells #[as_,ss,hv] 83 (0,0))
 row:x.ownsRow 0 108 1 hv hs.length (hs.map D')
 pb:x.heap[pk]? =some (.cells #[tv,bk,fv, .int .i64 m, .string t, .string ⟨l.toArray⟩] 110 (0,0))
 rt:x.ownsRow 0 9 1 tv k (List.replicate k (.string t))
 rb:x.ownsRow 0 5 1 bk l.length (bv l)
 rf:x.ownsRow 0 44 1 fv fs.length fs
 holds:∀q∈hs,Zt (fun b o=>fn' x.heap.size (Us wb hv) tv k bk l.length fv fs.length b o/\Ok b o) x q
 Yc:∀f∈fs,BAt (fun b o=>fn' x.heap.size (Us wb hv) tv k bk l.length fv fs.length b o/\Ok b o) x f t.data.toList
 far:Far E w x
 lh:Loc w hv0 hv
 lt:Loc w t0 tv
 lb:Loc w b0 bk
 lf:Loc w f0 fv
variable{u:World}{l:Array Value}{c f G W Y aK:Value}{aR bI:List Value}{m aU:List UInt8}
theorem Mid.hold2
  (F:Mid p u w a l #[W,Y,aK, .int .i64 M, .string o, .string ⟨aU.toArray⟩] c t f m G aR W (List.replicate q (.string o)) Y aU aK bI) (z:Nat->Nat->Prop) (H:∀i,z a i)
  (h1:∀g,W.ownBlock=some g->∀i,i < q->z g i) (h2:∀g,Y.ownBlock=some g->∀i,i < aU.length->z g i) (h3:∀g,aK.ownBlock=some g->∀i,i < bI.length->z g i) (I:∀J∈bI,BAt z u J o.data.toList):Zt z u a:=
 ⟨W,Y,aK,q,aU,bI,M,o,fun i _=>H i,fun i _=>y' F.qb,ge' F.t2 fun g O i hi=>h1 g O i (by simpa using hi),bo' F.b2 h2,ge' F.f2 h3,I⟩
theorem zy' (z:Nat->Nat->Prop) (h:Jg w p c m) (F:∀g C fr,w<=g->p.heap[g]? =some (.cells C 5 fr)->∀i,z g i):BAt z p c m:=by
 obtain⟨g,cap,C,fr,rfl,h1,h2,h3,h4,h5⟩:=h;refine⟨_,cap,rfl,h2,h3,fun _=>⟨g,0,rfl,fun i _=>F g C fr h1 h4 _,fun i hi=>?_⟩⟩;rw[z44,y' h4];exact h5 i hi
variable{bA:Nat -> Nat -> Prop}{D:Nat -> Prop}{O dA:World}{aO cT bP bQ cH bZ bR cL dH:Value}{k:List Nat}{aF:UInt8}{r:Nat}
theorem jz'.next
  (T:jz' bA D p u w a c f G W Y aK aO bP bQ cH k M o m t r)
  (F:Mid u O a q #[bP,bQ,cH, .int .i64 M, .string o, .string ⟨m.toArray⟩] #[bZ,bR,cL, .int .i64 M, .string o, .string ⟨(m++[aF]).toArray⟩] bP (List.replicate r (.string o)) bQ m cH t bZ (List.replicate r (.string o)++[.string o]) bR (m++[aF]) cL (t++[dH]))
  (N:∃B,u.heap.size<=B/\(∀g,bR.ownBlock=some g->g < B)/\Jg B O dH o.data.toList)
  (A:O.heap[w]? =some (.cells #[c,f,aO] 83 (0,0))->O.ownsRow 0 108 1 aO (k.map D').length (k.map D')->Add O dA w c f aO cT (k.map D'++[D' q]))
  (ab:∀r,r < p.heap.size->(Us w G r\/W.ownBlock=some r\/Y.ownBlock=some r\/aK.ownBlock=some r)->D r)
  (ac:∀aF z,(p.heap.size<=aF\/W.ownBlock=some aF\/Y.ownBlock=some aF\/aK.ownBlock=some aF)->bA aF z):jz' bA D p dA w q c f G W Y aK cT bZ bR cL (k++[q]) M o (m++[aF]) (t++[dH]) (r+1):=by
 have aJ:u.ownsRow 0 9 1 bP (List.replicate r (Value.string o)).length (List.replicate r (Value.string o)):=by rw[z55];exact T.rt
 have aL:u.ownsRow 0 5 1 bQ (bv m).length (bv m):=by rw[Z'];exact T.rb
 have ah:=F;rw[kA']at ah;have aq:bP.ownBlock≠some w:=av' T.rt T.wbk (by decide);have au:bQ.ownBlock≠some w:=av' T.rb T.wbk (by decide);have av:cH.ownBlock≠some w:=av' T.rf T.wbk (by decide);have ax:∀g,aO.ownBlock=some g->bP.ownBlock≠some g:=fun g H=>aG' T.row T.rt (by decide) H;have ay:∀g,aO.ownBlock=some g->bQ.ownBlock≠some g:=fun g H=>aG' T.row T.rb (by decide) H;have az:∀g,aO.ownBlock=some g->cH.ownBlock≠some g:=fun g H=>aG' T.row T.rf (by decide) H;have aA:=(F.rest w (z14 T.wbk) aq au av).trans T.wbk;have aB:O.ownsRow 0 108 1 aO k.length (k.map D'):=L' T.row (fun g H=>F.rest g (z15 T.row g H).2 (ax g H) (ay g H) (az g H));have J:=A aA (by rw[z43];exact aB);have Z:∀g,Us w aO g->g < u.heap.size:=fun g H=>H.elim (fun e=>e ▸ z14 T.wbk) (fun e=>(z15 T.row g e).2);have u1:∀g,Us w aO g->bP.ownBlock≠some g:=fun g H=>H.elim (fun e=>e ▸ aq) (ax g);have u2:∀g,Us w aO g->bQ.ownBlock≠some g:=fun g H=>H.elim (fun e=>e ▸ au) (ay g);have u3:∀g,Us w aO g->cH.ownBlock≠some g:=fun g H=>H.elim (fun e=>e ▸ av) (az g)
 -- from x to X
 have aC:=F.calm (Us w aO) aJ aL T.rf;have aD:=F.more (Us w aO) (by simp) (by simp) (by simp);simp only[List.length_append,List.length_replicate,List.length_cons,List.length_nil,Nat.zero_add]at aC aD;have aE:∀aF z,(fn' u.heap.size (Us w aO) bP r bQ m.length cH t.length aF z/\bA aF z)->O.cell? ⟨aF,z,none⟩=u.cell? ⟨aF,z,none⟩:=fun aF z h=>aC aF z h.1;have aG:∀aF z,(fn' u.heap.size (Us w aO) bP r bQ m.length cH t.length aF z/\bA aF z)->(fn' O.heap.size (Us w aO) bZ (r+1) bR (m.length+1) cL (t.length+1) aF z/\bA aF z):=fun aF z h=>⟨aD aF z h.1,h.2⟩;have aH:∀aF z,u.heap.size<=aF->bA aF z:=fun aF z h=>ac aF z (.inl (z26 T.far.size h));have ai:∀ {u0 aj u2:Value},Loc p u0 aj->Loc u aj u2->(∀aF,u0.ownBlock=some aF->∀z,bA aF z)->∀aF,u2.ownBlock=some aF->∀z,bA aF z:=by
  intro u0 aj u2 h1 h2 h0 aF hb z;rcases cg' h1 h2 T.far.size with h|h|⟨g,h,H⟩
  ·rw[h]at hb;cases hb
  ·exact h0 aF (h ▸ hb) z
  ·rw[h]at hb;injection hb with hb;exact ac aF z (.inl (by omega))
 have aM:∀aa∈k,Zt (fun aF z=>fn' O.heap.size (Us w aO) bZ (r+1) bR (m.length+1) cL (t.length+1) aF z/\bA aF z) O aa:=fun aa Q=>((T.holds aa Q).keep aE).mono aG;have aN:¬Us w aO q:=fun e=>by have:=Z q e;have:=F.qnew;omega
 have aI:∀ad∈t++[dH],BAt (fun aF z=>fn' O.heap.size (Us w aO) bZ (r+1) bR (m.length+1) cL (t.length+1) aF z/\bA aF z) O ad o.data.toList:=by
  intro ad V;rcases z61.1 V with V|V
  ·exact((T.Yc ad V).keep aE).mono aG
  ·rw[z51]at V;subst V;obtain⟨B,aX,aP,aQ⟩:=N;exact zy' _ aQ (fun g C fr H hb i=>⟨⟨z14 hb,fun hu=>by have:=Z g hu;omega,fun e=>absurd e (av' F.t2 hb (by decide)),fun e=>by have:=aP g e;omega,fun e=>absurd e (av' F.f2 hb (by decide))⟩,aH g i (by omega)⟩)
 have aR:Zt (fun aF z=>fn' O.heap.size (Us w aO) bZ (r+1) bR (m.length+1) cL (t.length+1) aF z/\bA aF z) O q:=by
  refine Mid.hold2 ah _ (fun i=>⟨⟨z14 F.qb,aN,fun e=>absurd e (av' F.t2 F.qb (by decide)),fun e=>absurd e (av' F.b2 F.qb (by decide)),fun e=>absurd e (av' F.f2 F.qb (by decide))⟩,aH q i F.qnew⟩) ?_ ?_ ?_ (by simpa using aI)
  ·intro g H i hi;exact⟨⟨(z15 F.t2 g H).2,fun hu=>oc' F.lt Z u1 g hu H,fun _=>hi,fun e=>absurd e (aG' F.t2 F.b2 (by decide) H),fun e=>absurd e (aG' F.t2 F.f2 (by decide) H)⟩,ai T.lt F.lt (fun aF hb z=>ac aF z (.inr (.inl hb))) g H i⟩
  ·intro g H i hi;exact⟨⟨(z15 F.b2 g H).2,fun hu=>oc' F.lb Z u2 g hu H,fun e=>absurd e (aG' F.b2 F.t2 (by decide) H),fun _=>by simpa using hi,fun e=>absurd e (aG' F.b2 F.f2 (by decide) H)⟩,ai T.lb F.lb (fun aF hb z=>ac aF z (.inr (.inr (.inl hb)))) g H i⟩
  ·intro g H i hi;exact⟨⟨(z15 F.f2 g H).2,fun hu=>oc' F.lf Z u3 g hu H,fun e=>absurd e (aG' F.f2 F.t2 (by decide) H),fun e=>absurd e (aG' F.f2 F.b2 (by decide) H),fun _=>by simpa using hi⟩,ai T.lf F.lf (fun aF hb z=>ac aF z (.inr (.inr (.inr hb)))) g H i⟩
 have aY:=F.qnew;have aS:¬Us w aO q:=fun e=>by have:=Z q e;omega
 have ak:∀ {e:TypeId} {v:Value} {n:Nat} {xs:List Value},O.ownsRow 0 e 1 v n xs->e≠108->e≠83->dA.ownsRow 0 e 1 v n xs:=by
  intro e v n xs ao aT aU;refine J.far.own ao (fun g H hu=>?_);rcases hu with rfl|hu
  ·exact av' ao aA aU H
  ·exact aG' ao aB aT H hu
 refine⟨J.blk,?_,J.far.blk F.qb aS,?_,?_,ak F.f2 (by decide) (by decide),?_,?_,?_,?_,?_,?_,?_⟩
 ·have:=J.row;simpa using this
 ·have:=ak ah.t2 (by decide) (by decide);simpa using this
 ·have:=ak F.b2 (by decide) (by decide);rw[Z']at this;exact this
 ·intro aa Q;have aV:Zt (fun aF z=>fn' O.heap.size (Us w aO) bZ (r+1) bR (m.length+1) cL (t.length+1) aF z/\bA aF z) O aa:=by
   rcases z61.1 Q with Q|Q
   ·exact aM aa Q
   ·rw[z51]at Q;exact Q ▸ aR
  have:=(aV.keep (fun aF z h=>nk' J.far aF z h.1)).mono (fun aF z h=>(⟨pE' J.far.size J.loc aF z h.1,h.2⟩:fn' dA.heap.size (Us w cT) bZ (r+1) bR (m.length+1) cL (t.length+1) aF z/\bA aF z));simpa using this
 ·intro ad V;have:=((aI ad V).keep (fun aF z h=>nk' J.far aF z h.1)).mono (fun aF z h=>(⟨pE' J.far.size J.loc aF z h.1,h.2⟩:fn' dA.heap.size (Us w cT) bZ (r+1) bR (m.length+1) cL (t.length+1) aF z/\bA aF z));simpa using this
 ·have aW:Far D p O:=by
   refine T.far.trans (E':=fun g=>bP.ownBlock=some g\/bQ.ownBlock=some g\/cH.ownBlock=some g) ⟨F.os,F.tape,F.output,F.size,fun g H I=>F.rest g H (fun e=>I (.inl e)) (fun e=>I (.inr (.inl e))) (fun e=>I (.inr (.inr e)))⟩ ?_;intro g H I;rcases I with I|I|I
   ·rcases T.lt with h|h|⟨g',h,ap⟩
    ·rw[h]at I;cases I
    ·exact ab g H (.inr (.inl (h ▸ I)))
    ·rw[h]at I;injection I with I;omega
   ·rcases T.lb with h|h|⟨g',h,ap⟩
    ·rw[h]at I;cases I
    ·exact ab g H (.inr (.inr (.inl (h ▸ I))))
    ·rw[h]at I;injection I with I;omega
   ·rcases T.lf with h|h|⟨g',h,ap⟩
    ·rw[h]at I;cases I
    ·exact ab g H (.inr (.inr (.inr (h ▸ I))))
    ·rw[h]at I;injection I with I;omega
  refine aW.trans J.far ?_;intro g H I;rcases I with I|I
  ·exact ab g H (.inl (.inl I))
  ·rcases T.lh with h|h|⟨g',h,ap⟩
   ·rw[h]at I;cases I
   ·exact ab g H (.inl (.inr (h ▸ I)))
   ·rw[h]at I;injection I with I;omega
 ·exact cg' T.lh J.loc (z26 T.far.size F.size)
 ·exact cg' T.lt F.lt T.far.size
 ·exact cg' T.lb F.lb T.far.size
 ·exact cg' T.lf F.lf T.far.size
variable{aY:Array Value}
theorem jz'.mid
  (T:jz' bA D p u w a c f G W Y aK aO cT bP bQ k M o m aR r) (F:Mid u O a q l aY cT (List.replicate r (.string o)) bP m bQ aR cH t bZ aU bR bI):
  O.heap[w]? =some (.cells #[c,f,aO] 83 (0,0))/\O.ownsRow 0 108 1 aO (k.map D').length (k.map D'):=by
 refine⟨(F.rest w (z14 T.wbk) (av' T.rt T.wbk (by decide)) (av' T.rb T.wbk (by decide)) (av' T.rf T.wbk (by decide))).trans T.wbk,?_⟩;rw[z43];exact L' T.row (fun g z=>F.rest g (z15 T.row g z).2 (aG' T.row T.rt (by decide) z) (aG' T.row T.rb (by decide) z) (aG' T.row T.rf (by decide) z))
structure Zm (w x:World) (p wb:Nat) (cp:Array Value) (as_ ss hv:Value) (hs:List Nat) (tv:Value) (ts:List Value) (bk:Value) (l:List UInt8) (fv:Value) (fs:List Value):Prop where
 pb:x.heap[p]? =some (.cells cp 110 (0,0))
 wbk:x.heap[wb]? =some (.cells #[as_,ss,hv] 83 (0,0))
 row:x.ownsRow 0 108 1 hv hs.length (hs.map D')
 rt:x.ownsRow 0 9 1 tv ts.length ts
 rb:x.ownsRow 0 5 1 bk l.length (bv l)
 rf:x.ownsRow 0 44 1 fv fs.length fs
 far:Far (fun k=>k=p\/tv.ownBlock=some k\/bk.ownBlock=some k\/fv.ownBlock=some k) w x
section
variable {w x y:World} {p wb:Nat} {cp:Array Value} {as_ ss hv tv bk fv:Value} {hs:List Nat} {ts fs:List Value} {l:List UInt8}
theorem Zm.set (z:Zm w x p wb cp as_ ss hv hs tv ts bk l fv fs) (j:Nat) (v:Value):Zm w (x.setCell ⟨p,j,none⟩ v) p wb (cp.setIfInBounds j v) as_ ss hv hs tv ts bk l fv fs:=
 ⟨aa' z.pb,(P' (vT' z.wbk z.pb (by decide))).trans z.wbk,cw' z.row z.pb (by decide),cw' z.rt z.pb (by decide),cw' z.rb z.pb (by decide),cw' z.rf z.pb (by decide),z.far.trans (Q' x p j v) (fun _ _ h=> .inl h)⟩
theorem Zm.below (z:Zm w x p wb cp as_ ss hv hs tv ts bk l fv fs) (h:Below x.heap.size x y):Zm w y p wb cp as_ ss hv hs tv ts bk l fv fs:=by
 have F:Far (fun _=>False) x y:=C' h;exact⟨F.blk z.pb id,F.blk z.wbk id,F.own z.row (fun _ _=>id),F.own z.rt (fun _ _=>id),F.own z.rb (fun _ _=>id),F.own z.rf (fun _ _=>id),z.far.trans F (fun _ _ h=>h.elim)⟩
theorem Zm.lists {ts2:List Value} (z:Zm w x p wb cp as_ ss hv hs tv ts bk l fv fs) (h:Far (fun k=>tv.ownBlock=some k\/bk.ownBlock=some k\/fv.ownBlock=some k) x y)
  (G:y.ownsRow 0 9 1 tv ts2.length ts2) (hb:y.ownsRow 0 5 1 bk m.length (bv m)) (H:y.ownsRow 0 44 1 fv t.length t):Zm w y p wb cp as_ ss hv hs tv ts2 bk m fv t:=
 ⟨h.blk z.pb (fun e=>e.elim (av' z.rt z.pb (by decide)) (fun e=>e.elim (av' z.rb z.pb (by decide)) (av' z.rf z.pb (by decide)))),
  h.blk z.wbk (fun e=>e.elim (av' z.rt z.wbk (by decide)) (fun e=>e.elim (av' z.rb z.wbk (by decide)) (av' z.rf z.wbk (by decide)))),
  h.own z.row (fun g F e=>e.elim (aG' z.row z.rt (by decide) F) (fun e=>e.elim (aG' z.row z.rb (by decide) F) (aG' z.row z.rf (by decide) F))),G,hb,H,z.far.trans h (fun _ _ h=> .inr h)⟩
end
def ew' (p z:Nat) (F G H fv:Value) (k:Nat):Prop:=k=p\/(G.ownBlock=some k\/H.ownBlock=some k\/fv.ownBlock=some k)\/Us z F k
theorem Zm.start {A:Nat->Nat->Prop} {w x Q:World} {p G Y B:Nat} {ah ai I ac J H fv:Value} {hs:List Nat} {l:List UInt8} {Z:List Value} {m:Int} {t:z10}
  (z:Zm w x p G #[J,H,fv, .int .i64 m, .string t, .string ⟨l.toArray⟩] ah ai I hs J (List.replicate Y (.string t)) H l fv Z) (D:Add x Q G ah ai I ac (hs.map D'++[D' p]))
  (ao:∀b o,A b o->b < w.heap.size/\¬ew' p G I J H fv b) (aA:∀q∈hs,Zt A w q) (ap:∀g,(I.ownBlock=some g\/H.ownBlock=some g)->g < B) (aL:G < B) (aM:w.heap.size<=B) (aB:∀f∈Z,Jg B x f t.data.toList):
  jz' (fun b o=>A b o\/b=p\/(J.ownBlock=some b\/H.ownBlock=some b\/fv.ownBlock=some b)\/w.heap.size<=b) (ew' p G I J H fv) w Q G p ah ai I J H fv ac J H fv (hs++[p]) m t l Z Y:=by
 have aC:p≠G:=fun e=>vT' z.wbk z.pb (by decide) e.symm;have aD:I.ownBlock≠some p:=av' z.row z.pb (by decide);have aE:J.ownBlock≠some p:=av' z.rt z.pb (by decide);have aF:H.ownBlock≠some p:=av' z.rb z.pb (by decide);have aG:fv.ownBlock≠some p:=av' z.rf z.pb (by decide);have aq:¬Us G I p:=fun e=>e.elim aC aD;have au:∀g,J.ownBlock=some g->¬Us G I g:=fun g F e=>e.elim (fun e=>av' z.rt z.wbk (by decide) (e ▸ F)) (fun e=>aG' z.rt z.row (by decide) F e);have av:∀g,H.ownBlock=some g->¬Us G I g:=fun g F e=>e.elim (fun e=>av' z.rb z.wbk (by decide) (e ▸ F)) (fun e=>aG' z.rb z.row (by decide) F e);have ax:∀g,fv.ownBlock=some g->¬Us G I g:=fun g F e=>e.elim (fun e=>av' z.rf z.wbk (by decide) (e ▸ F)) (fun e=>aG' z.rf z.row (by decide) F e);have aj:=D.far.blk z.pb aq;have M:=D.far.own z.rt au;have V:=D.far.own z.rb av;have O:=D.far.own z.rf ax;have aa:∀b,b < x.heap.size->¬Us G I b->¬Us G ac b:=by
  intro b hb hu e;rcases e with e|e
  ·exact hu (.inl e)
  ·rcases D.loc with h|h|⟨g,h,F⟩
   ·rw[h]at e;cases e
   ·exact hu (.inr (h ▸ e))
   ·rw[h]at e;injection e with e;omega
 have aH:=z14 z.pb;have ak:Far (ew' p G I J H fv) w Q:=(z.far.mono (E':=ew' p G I J H fv) (fun k _ h=>h.elim .inl (fun h=> .inr (.inl h)))).trans D.far (fun k _ h=> .inr (.inr h));have aI:Q.ownsRow 0 9 1 J Y (List.replicate Y (.string t)):=by rw[z55]at M;exact M
 have ay:∀f∈Z,BAt (fun b o=>fn' Q.heap.size (Us G ac) J Y H l.length fv Z.length b o/\(A b o\/b=p\/(J.ownBlock=some b\/H.ownBlock=some b\/fv.ownBlock=some b)\/w.heap.size<=b)) Q f t.data.toList:=by intro f aJ;obtain⟨g,cap,C,fr,rfl,h1,h2,h3,h4,h5⟩:=aB f aJ;have az:¬Us G I g:=fun e=>e.elim (fun e=>by omega) (fun e=>by have:=ap g (.inl e);omega);have ad:=D.far.blk h4 az;refine⟨_,cap,rfl,h2,h3,fun _=>⟨g,0,rfl,fun i hi=>⟨⟨z14 ad,aa g (z14 h4) az,fun e=>absurd e (av' M ad (by decide)),fun e=>by have:=ap g (.inr e);omega,fun e=>absurd e (av' O ad (by decide))⟩, .inr (.inr (.inr (by omega)))⟩,fun i hi=>?_⟩⟩;rw[z44,y' ad];exact h5 i hi
 refine⟨D.blk,by simpa using D.row,aj,aI,V,O,?_,ay,ak,D.loc.mono z.far.size, .inr (.inl rfl), .inr (.inl rfl), .inr (.inl rfl)⟩;intro q ab;rcases z61.1 ab with ab|ab
 ·refine((aA q ab).keep (fun b o h=>?_)).mono (fun b o h=>?_)
  ·obtain⟨h1,h2⟩:=ao b o h;exact z39 (ak.rest b h1 h2)
  ·obtain⟨h1,h2⟩:=ao b o h;exact⟨⟨z20 h1 ak.size,aa b (z20 h1 z.far.size) (fun e=>h2 (.inr (.inr e))),fun e=>absurd (.inr (.inl (.inl e))) h2,fun e=>absurd (.inr (.inl (.inr (.inl e)))) h2,fun e=>absurd (.inr (.inl (.inr (.inr e)))) h2⟩, .inl h⟩
 ·rw[z51]at ab;subst ab;refine⟨J,H,fv,Y,l,Z,m,t,fun i _=>⟨⟨z14 aj,aa q aH aq,fun e=>absurd e aE,fun e=>absurd e aF,fun e=>absurd e aG⟩, .inr (.inl rfl)⟩,fun i _=>y' aj,?_,?_,?_,ay⟩
  ·exact ge' M fun g F i hi=>⟨⟨(z15 M g F).2,aa g (z15 z.rt g F).2 (au g F),fun _=>by simpa using hi,fun e=>absurd e (aG' M V (by decide) F),fun e=>absurd e (aG' M O (by decide) F)⟩, .inr (.inr (.inl (.inl F)))⟩
  ·have aK:Q.ownsRow 0 5 1 H (bv l).length (bv l):=(by rw[Z'];exact V);exact bo' aK fun g F i hi=>⟨⟨(z15 V g F).2,aa g (z15 z.rb g F).2 (av g F),fun e=>absurd e (aG' V M (by decide) F),fun _=>hi,fun e=>absurd e (aG' V O (by decide) F)⟩, .inr (.inr (.inl (.inr (.inl F))))⟩
  ·exact ge' O fun g F i hi=>⟨⟨(z15 O g F).2,aa g (z15 z.rf g F).2 (ax g F),fun e=>absurd e (aG' O M (by decide) F),fun e=>absurd e (aG' O V (by decide) F),fun _=>hi⟩, .inr (.inr (.inl (.inr (.inr F))))⟩
theorem cQ' (A:Nat->Nat->Prop) (w:World) (G p:Nat) (J M ab z F fv:Value) (hs:List Nat) (H O:List Value) (l:List UInt8) (bS:Qj A w G J M ab hs)
  (ap:w.heap[p]? =some (.cells #[z,F,fv, .int .i64 0, .string ⟨#[]⟩, .string ⟨#[]⟩] 110 (0,0))) (ba:w.ownsRow 0 9 1 z H.length H) (aD:w.ownsRow 0 5 1 F l.length (bv l)) (bb:w.ownsRow 0 44 1 fv O.length O)
  (bc:∀b o,A b o->b < w.heap.size/\¬ew' p G ab z F fv b) (ci:hs.length+4<=17592186044416) (cj:l.length<=140737488353990) (z3:H.length<=900) (z4:O.length<=900):
  Calls prog 76 #[D' G,D' p] w fun r w'=>r= .returned (.tuple #[])/\∃aE bd,bd.length=hs.length+4/\Qj (fun b o=>(b < w'.heap.size/\¬Us G aE b)/\(A b o\/b=p\/(z.ownBlock=some b\/F.ownBlock=some b\/fv.ownBlock=some b)\/w.heap.size<=b)) w' G J M aE bd/\
   Far (ew' p G ab z F fv) w w'/\Loc w ab aE:=by
 obtain⟨aq,au,be⟩:=bS;have bf:Zm w w p G _ J M ab hs z H F l fv O:=⟨ap,aq,au,ba,aD,bb,Far.refl _ _⟩;have bg:Row (fun _=>True) w 108 ab (hs.map D'):=⟨by rw[z43];exact au,fun _ _=>trivial⟩;obtain⟨Q,V,bh,h1,h2,h3⟩:=bg.shape;rw[z43]at bh;have bi:=m' (z14 aq);have bj:=m' (fun g ah=>(z15 au g ah).2);have bk:=m' (fun g ah=>(z15 aD g ah).2);subst bh;have bl:=m' bc;have bm:=m' be;have c2:=y' (i:=2) aq;have ai:=y' (i:=3) ap;have f3:=H' (i:=3) ap;simp at c2 ai;have bn:=m' bf;have n1:(hs.length:Int)+1<=9223372036854775807:=by omega
 clear aq au be bg h1 h2 h3 bc ap aD ba bb bf;unfold D';go_enter func76,ntmps76;go_upto_region 1 with fail;refine G' (fun x=>Zm w x p G #[z,F,fv, .int .i64 (hs.length+1), .string ⟨#[]⟩, .string ⟨#[]⟩] J M (.slice Q hs.length V) hs z H F l fv O) (by simpa using (d' bn).set 3 (.int .i64 (hs.length+1))) ?_;clear f3 c2 ai bn n1;generalize (hs.length:Int)+1=m;intro ck aF;have ai:=y' (i:=3) aF.pb;simp at ai;have bo:=m' aF;clear aF;go_upto_region 2 with (go_at_call 114;refine(vN' _ _).mono ?_;rintro r aG ⟨t,rfl,av,bp⟩;have ax:=(d' bo).below bp;have bq:=y' (i:=4) ax.pb;have f4:=H' (i:=4) ax.pb;simp at bq;have br:=m' ax;have aH:=m' av;clear ax bp av ai);refine G' (fun x=>Zm w x p G #[z,F,fv, .int .i64 m, .string t, .string ⟨#[]⟩] J M (.slice Q hs.length V) hs z H F l fv O) (by simpa using (d' br).set 4 (.string t)) ?_;clear bq f4 br bo;intro bt bu;have I:=m' bu;clear bu;go_upto_region 3 with (go_at_call 115;refine(on' p _ z F fv H O l m t ⟨#[]⟩ (d' I).pb (d' I).rt (d' I).rb (d' I).rf (by omega) (by omega) (by omega) (by have:=d' aH;omega)).mono ?_;rintro r cl ⟨rfl,ac,ay,aI,aJ,bw,aK,aL,bz,bA⟩;rw[<-aI]at aK;rw[<-aJ]at aL;have bB:=(d' I).lists bA (ts2:=List.replicate H.length (.string t)) (by rw[z55];exact bw) aK aL;have Z:=m' bB;have bT:=m' aI;have bU:=m' aJ;have bC:=m' bz;clear bB bA bw aK aL aI aJ bz);have bD:=y' (i:=1) (d' Z).pb;have bE:=y' (i:=5) (d' Z).pb;have f5:=H' (i:=5) (d' Z).pb;simp at bD bE;have bV:=(bo' (A:=fun _ _=>True) (by have:=(d' Z).rb;rw[<-Z' ac]at this;exact this) (fun _ _ _ _=>trivial)).str;go_upto_region 4 with fail;refine G' (fun x=>Zm w x p G #[z,F,fv, .int .i64 m, .string t, .string ⟨ac.toArray⟩] J M (.slice Q hs.length V) hs z (List.replicate H.length (.string t)) F ac fv ay/\∀f∈ay,Jg bt.heap.size x f t.data.toList) ⟨by simpa using (d' Z).set 5 (.string ⟨ac.toArray⟩),fun f bW=>((d' bC) f bW).set (d' Z).pb⟩ ?_;clear bD bE f5 bV Z bC;rintro bF ⟨aM,bG⟩;have c2:=y' (i:=2) aM.wbk;simp at c2;have Y:=m' aM;have bH:=m' bG;clear aM bG;go_upto_region 5 with (at_builtin;(refine bV' rfl (.tmp 37) (.tmp 39) 81 rfl 108 (.pointer none) 8 underlying81 vO' rfl (.slice Q hs.length V) (hs.map D') (z53 (by rw[z43];exact(d' Y).row) _) rfl ⟨bF.heap.size,0,none⟩ (D' p) rfl (by simp[D']) rfl (by rw[z43];omega) (by rw[z43];omega) ?_;intro v1 w1 aN bX aO;obtain⟨g1,bY,bI⟩:=aJ' aN (by simp);rw[show(hs.map D'++[D' p]).length=hs.length+1 by simp]at bI;subst bI;have D:=vS' (d' Y).wbk (by rw[z43];exact(d' Y).row) aO aN;have aP:=cv' aO (fun k hk=>z25 bF _ k hk) (by simp) (d' Y).wbk (av' (d' Y).row (d' Y).wbk (by decide));have bJ:=y' (i:=2) aP;have f21:=H' (i:=2) aP;simp at bJ;have aj:=m' D;clear D aP aN bX aO));refine G' (fun x=>jz' (fun b o=>A b o\/b=p\/(z.ownBlock=some b\/F.ownBlock=some b\/fv.ownBlock=some b)\/w.heap.size<=b) (ew' p G (.slice Q hs.length V) z F fv) w x G p J M (.slice Q hs.length V) z F fv (.slice (some ⟨g1,0,none⟩) (hs.length+1) bY) z F fv (hs++[p]) m t ac ay H.length)
  ((d' Y).start (B:=bt.heap.size) (d' aj) (d' bl) (d' bm) (fun g ah=>z20 (ah.elim ((d' bj) g) ((d' bk) g)) (d' I).far.size) (z20 (d' bi) (d' I).far.size) (d' I).far.size (d' bH)) ?_
 clear c2 bJ f21 aj Y bl bm bH I bi bj bk;intro cm bK;have bL:=m' bK;clear bK;go_wp2;go_loopw[4,5] (fun g i wr=>∃ (k az:Nat) (aA aQ aR aS:Value) (aa:List Nat) (ak:List UInt8) (ao:List Value),k<=3/\g= .pointer (some ⟨az,0,none⟩)/\i= .int .i64 k/\aa.length=hs.length+1+k/\ak.length=l.length+k/\ao.length=O.length+k/\
  jz' (fun b o=>A b o\/b=p\/(z.ownBlock=some b\/F.ownBlock=some b\/fv.ownBlock=some b)\/w.heap.size<=b) (ew' p G (.slice Q hs.length V) z F fv) w wr G az J M (.slice Q hs.length V) z F fv aA aQ aR aS aa m t ak ao (H.length+k)) (fun _ i _=>3 - (intOf i).toNat)
 case atStart=>exact⟨0,p,_,_,_,_,hs++[p],ac,ay,by omega,rfl,rfl,by simp,d' bT,d' bU,d' bL⟩
 case round=>
  obtain⟨k,az,aA,aQ,aR,aS,aa,ak,ao,hk,rfl,rfl,bM,bN,bO,T⟩:=hrel;have aB:=m' bM;have bZ:=m' bN;have ca:=m' bO;have av:=d' aH;have aT:ak.length<=140737488354000:=by omega
  have bP:ao.length<=1000:=by omega
  have aU:t.size<=3:=by omega
  clear bM bN bO av aH bL;by_cases cn:k < 3
  ·have cb:=m' (si' az wr aQ aR aS (H.length+k) ak ao m t T.pb T.rt T.rb T.rf (by omega) aT bP aU);have aC:=m' T;clear T aT aU bP;go_upto_region 10 with (go_at_call 116;refine(d' cb).mono ?_;rintro r X ⟨q,cp,cq,cr,v6,b,rfl,aV,N⟩;have aW:=(d' aC).mid aV;have aG:=y' (i:=2) aW.1;simp at aG;have ad:=m' aW;have cc:=m' aV;have cd:=m' N;clear aW aV N);simp only[D'];go_upto_region 8 with (at_builtin;(refine bV' rfl (.tmp 54) (.tmp 56) 81 rfl 108 (.pointer none) 8 underlying81 vO' rfl aA (aa.map D') (z53 (d' ad).2 _) rfl ⟨X.heap.size,0,none⟩ (D' q) rfl (by simp[D']) rfl (by rw[z43];have:=d' aB;omega) (by rw[z43];have:=d' aB;omega) ?_;intro cs cu aX ce aY;obtain⟨cv,cw,bQ⟩:=aJ' aX (by simp);rw[show(aa.map D'++[D' q]).length=aa.length+1 by simp]at bQ;subst bQ;have D:=vS' (d' ad).1 (d' ad).2 aY aX;have aZ:=cv' aY (fun k hk=>z25 X _ k hk) (by simp) (d' ad).1 (av' (d' ad).2 (d' ad).1 (by decide));have bR:=y' (i:=2) aZ;have f27:=H' (i:=2) aZ;simp at bR;have aj:=m' D;clear D aZ aX ce aY));have cf:=m' ((d' aC).next (d' cc) (d' cd) (fun _ _=>d' aj) (fun g _ h=>h.elim (fun h=> .inr (.inr h)) (fun h=> .inr (.inl h))) (fun b o h=>h.elim (fun h=> .inr (.inr (.inr h))) (fun h=> .inr (.inr (.inl h)))));clear aG bR f27 aj;go_wp2;go_roundw
   case rel=>exact⟨k+1,q,_,_,_,_,_,_,_,by omega,rfl,by go_num,by have:=d' aB;simp;omega,by have:=d' bZ;simp;omega,by have:=d' ca;simp;omega,d' cf⟩
   case measure=>simp[intOf];omega
  ·have cg:k=3:=(by omega);subst cg;have aC:=m' T;clear T aT aU;go_wp2;refine z77 (z65 rfl _ _ _) rfl ?_;have T:=d' aC;exact⟨rfl,aA,aa,by have:=d' aB;omega,⟨T.wbk,T.row,fun q ch=>(T.holds q ch).mono (fun b o h=>⟨⟨h.1.1,h.1.2.1⟩,h.2⟩)⟩,T.far,T.lh⟩
theorem Qj.mono {A z:Nat->Nat->Prop} {w:World} {F:Nat} {G H I:Value} {hs:List Nat} (h:Qj A w F G H I hs) (J:∀b o,A b o->z b o):Qj z w F G H I hs:=
 ⟨h.blk,h.row,fun p M=>(h.all p M).mono J⟩
def kN' (w:World) (v:Value) (xs:List Value):Prop:=
 ∃z cap,v= .slice z xs.length cap/\xs.length<=cap/\cap<=maxLen/\(0 < xs.length->∃g o,z=some ⟨g,o,none⟩/\g < w.heap.size/\∀i,i < xs.length->w.cell? ⟨g,o+i,none⟩=xs[i]?)
theorem bc' {B:Nat} (h:p.ownsRow B j 1 c w t):kN' p c t:=by
 have hn:t.length=w:=by have:=h.1;omega
 subst hn;have h0:=h;obtain⟨h1,h2⟩:=h;rcases h2 with ⟨z,h2⟩|⟨g,cap,I,z,J,F,G,H,_,M⟩
 ·exact⟨none,0,by rw[h2];exact z,by omega,by unfold maxLen;omega,fun h=>by omega⟩
 ·subst z;exact⟨_,cap,rfl,G,H,fun _=>⟨g,0,rfl,z14 F,fun i hi=>by rw[z44];exact z59 h0 i (by omega)⟩⟩
theorem pW' (A:Nat->Nat->Prop) (w:World) (z:Nat) (V Y F lv ac:Value) (hs:List Nat) (L:List z10) (ad:Qj A w z V Y F hs)
  (hl:w.ownsRow 0 9 1 lv L.length (ao' L)) (au:kN' w ac (ao' L)) (ah:∀b o,A b o->b < w.heap.size/\¬ (lv.ownBlock=some b\/Us z F b)) (av:hs.length+4<=17592186044416) (ax:L.length<=900):
  Calls prog 123 #[D' z,lv,ac] w fun r w'=>r= .returned (.bool true)/\∃G J,J.length=hs.length+4/\Qj (fun b o=>(b < w'.heap.size/\¬Us z G b)/\(A b o\/lv.ownBlock=some b\/w.heap.size<=b)) w' z V Y G J/\
   Far (fun k=>lv.ownBlock=some k\/Us z F k) w w'/\Loc w F G:=by
 obtain⟨M,O,ai,ay,aJ,Z⟩:=bc' hl;obtain⟨aK,aL,aj,az,aM,aa⟩:=au;rw[bF']at ai ay Z aj az aa;subst ai aj;have aA:=m' Z;have aB:=m' aa;have aC:=m' hl;have Q:=m' ad;have H:=m' ah;have n1:L.length<=9223372036854775807:=by omega
 clear Z aa hl ad ah;unfold D';go_enter func123,ntmps123;go_wp2;go_loopw[7,8] (fun ok i wr=>∃k:Nat,k<=L.length/\i= .int .i64 k/\ok= .bool true/\∃q,wr=w.drewN q) (fun _ i _=>L.length - (intOf i).toNat)
 case atStart=>exact⟨0,by omega,rfl,rfl,0,rfl⟩
 case round=>
  obtain⟨k,hk,rfl,rfl,q,rfl⟩:=hrel;by_cases ab:k < L.length
  ·obtain⟨g,o,rfl,_,ak⟩:=(d' aA) (by omega);obtain⟨g2,aN,rfl,_,ao⟩:=(d' aB) (by omega);have I:(ao' L)[k]? =some (.string L[k]):=(by simp[ao',ab]);have aD:=(ak k ab).trans I;have aE:=(ao k ab).trans I;clear ak ao I;generalize L[k]=aO at aD aE;go_wp2;go_quiet (fail);go_wp2;go_roundw
   case rel=>exact⟨k+1,by omega,by go_num,rfl,q+nq,by simp⟩
   case measure=>simp[intOf];omega
  ·clear hk;have ap:=m' (cQ' A ((w.drewN q).alloc (.cells #[.slice M L.length O, .slice none 0 0, .slice none 0 0, .int .i64 0, .string ⟨#[]⟩, .string ⟨#[]⟩] 110)) z w.heap.size V Y F (.slice M L.length O) (.slice none 0 0) (.slice none 0 0) hs (ao' L) [] []
    ⟨(z25 _ _ _ (z14 (d' Q).blk)).trans (d' Q).blk,z53 (w:=w.drewN q) (d' Q).row _,fun x I=>((d' Q).all x I).keep (fun b o h=>z39 (z25 (w.drewN q) _ b ((d' H) b o h).1))⟩
    (z19 (w.drewN q) _) (by rw[bF'];exact z53 (w:=w.drewN q) (d' aC) _) (z27 _ _ _ _) (z27 _ _ _ _)
    (fun b o h=>⟨by have:=((d' H) b o h).1;simp;omega,fun e=>by
     rcases e with e|(e|e|e)|e
     ·have:=((d' H) b o h).1;omega
     ·exact((d' H) b o h).2 (.inl e)
     ·cases e
     ·cases e
     ·exact((d' H) b o h).2 (.inr e)⟩) av (by simp) (by rw[bF'];exact ax) (by simp))
   unfold D' at ap;go_wp2_with (go_at_call 76;refine(d' ap).mono ?_;rintro r w1 ⟨rfl,G,J,aF,aG,aH,aI⟩);go_ret;have aq:Far (fun k=>(Value.slice M L.length O).ownBlock=some k\/Us z F k) w ((w.drewN q).alloc (.cells #[.slice M L.length O, .slice none 0 0, .slice none 0 0, .int .i64 0, .string ⟨#[]⟩, .string ⟨#[]⟩] 110)):=C' ((z41 (z11 _ _) q).alloc (z13 _) _);refine⟨rfl,G,J,aF,aG.mono (fun b o h=>⟨h.1,h.2.elim .inl (fun h=>h.elim (fun h=> .inr (.inr (by omega))) (fun h=>h.elim (fun h=>h.elim (fun h=> .inr (.inl h)) (fun h=>h.elim (fun h=>by cases h) (fun h=>by cases h))) (fun h=> .inr (.inr (by simp at h;omega)))))⟩),aq.trans aH (fun k hk e=>?_),aI.mono aq.size⟩;rcases e with e|(e|e|e)|e
   ·omega
   ·exact .inl e
   ·cases e
   ·cases e
   ·exact .inr e
def Zc (z:List Value) (i b:Nat):Prop:=∃j,j < i/\∃v,z[j]? =some v/\v.ownBlock=some b
theorem Zc.mono {z:List Value} {i F b:Nat} (h:Zc z i b) (hi:i<=F):Zc z F b:=by
 obtain⟨j,hj,r⟩:=h;exact⟨j,by omega,r⟩
theorem pX' (A:Nat->Nat->Prop) (w:World) (F:Nat) (ah ai G lv aT:Value) (hs:List Nat) (z:List Value) (J:List (List UInt8)) (aU:Qj A w F ah ai G hs) (aF:z.length=J.length)
  (hl:w.ownsRow 0 44 1 lv z.length z) (bi:kN' w aT (er' J)) (aV:∀ (j:Nat) (v:Value),z[j]? =some v->w.ownsRow 0 5 1 v (J.getD j []).length (bv (J.getD j [])))
  (aW:∀ (i j:Nat) (u v:Value),z[i]? =some u->z[j]? =some v->i≠j->∀g,u.ownBlock=some g->v.ownBlock≠some g)
  (aX:∀b o,A b o->b < w.heap.size/\¬ (lv.ownBlock=some b\/Zc z z.length b\/Us F G b)) (bj:hs.length+4 * z.length+4<=17592186044416) (bk:z.length<=900) (z3:∀j,(J.getD j []).length<=1000):
  Calls prog 120 #[D' F,lv,aT] w fun r w'=>r= .returned (.bool true)/\∃H Y,Y.length=hs.length+4 * z.length+4/\Qj (fun b o=>(b < w'.heap.size/\¬Us F H b)/\(A b o\/(lv.ownBlock=some b\/Zc z z.length b)\/w.heap.size<=b)) w' F ah ai H Y/\
   Far (fun k=>(lv.ownBlock=some k\/Zc z z.length k)\/Us F G k) w w'/\Loc w G H:=by
 obtain⟨aj,ak,bl,bm,bn,aY⟩:=bc' hl;obtain⟨bD,bE,aZ,ba,bF,aG⟩:=bi;rw[pS',<-aF]at aZ ba aG;subst bl aZ;have aH:=m' aY;have bb:=m' aG;have O:=m' hl;have Q:=m' aU;have aA:=m' aX;have aB:=m' aV;have bc:=m' aW;have bo:=m' aF;have bp:=m' z3;obtain⟨n,hn⟩:=exq (z.length);rw[<-hn]at bj bk bm ba aH bb O ⊢;have Z:=m' hn;have n1:n<=9223372036854775807:=by omega
 clear aY aG hl aU aX aV aW aF z3 hn;unfold D';go_enter func120,ntmps120;go_wp2;go_loopw[7,8] (fun ok i wr=>∃k:Nat,k<=n/\i= .int .i64 k/\ok= .bool true/\∃q,wr=w.drewN q) (fun _ i _=>n - (intOf i).toNat)
 case atStart=>exact⟨0,by omega,rfl,rfl,0,rfl⟩
 case round=>
  obtain⟨k,hk,rfl,rfl,q,rfl⟩:=hrel;by_cases bd:k < n
  ·have ab:k < z.length:=(by have:=d' Z;omega);obtain⟨g,o,rfl,_,ao⟩:=(d' aH) (by omega);obtain⟨g2,bG,rfl,_,be⟩:=(d' bb) (by omega);have ac:=ao k bd;rw[z18 ab]at ac;have bq:k < J.length:=(by have:=d' Z;have:=d' bo;omega);have br:=(be k bd).trans (show(er' J)[k]? =some (.string ⟨(J.getD k []).toArray⟩) by simp[er',bq]);have V:=(d' aB) k z[k] (z18 ab);have bf:=fun m=>((bo' (A:=fun _ _=>True) (w:=w) (by rw[Z'];exact V) (fun _ _ _ _=>trivial)).keep (w':=w.drewN m) (fun _ _ _=>rfl)).str;clear ao be V;generalize z[k]=bH at ac bf;generalize J.getD k []=bI at br bf;go_wp2;go_quiet (fail);go_wp2;go_roundw
   case rel=>exact⟨k+1,by omega,by go_num,rfl,q+nq,by simp⟩
   case measure=>simp[intOf];omega
  ·clear hk;go_wp2;go_loopw[9] (fun i wr=>∃ (k:Nat) (H:Value) (Y:List Nat),k<=n/\i= .int .i64 k/\Y.length=hs.length+4 * k/\Qj (fun b o=>(b < wr.heap.size/\¬Us F H b)/\(A b o\/Zc z k b\/w.heap.size<=b)) wr F ah ai H Y/\Far (fun b=>Zc z k b\/Us F G b) w wr/\Loc w G H) (fun i _=>n - (intOf i).toNat)
   case atStart=>have hF:Far (fun b=>Zc z 0 b\/Us F G b) w (w.drewN q):=C' (z41 (z11 _ _) q);refine⟨0,G,hs,by omega,rfl,by simp,⟨(d' Q).blk,(d' Q).row,fun x ap=>(((d' Q).all x ap).keep (w':=w.drewN q) (fun _ _ _=>rfl)).mono (fun b o h=>?_)⟩,hF, .inr (.inl rfl)⟩;exact⟨⟨((d' aA) b o h).1,fun e=>((d' aA) b o h).2 (.inr (.inr e))⟩, .inl h⟩
   case round=>
    obtain⟨k,H,Y,hk,rfl,bJ,W,hF,aC⟩:=hrel;by_cases bt:k < n
    ·have ab:k < z.length:=(by have:=d' Z;omega);obtain⟨g,o,rfl,bu,ao⟩:=(d' aH) (by omega);have ad:¬ (Zc z k g\/Us F G g):=by
      rintro(⟨j,hj,v,h1,h2⟩|e|e)
      ·exact aG' ((d' aB) j v h1) (d' O) (by decide) h2 rfl
      ·exact av' (d' O) (d' Q).blk (by decide) (by rw[<-e];rfl)
      ·exact aG' (d' O) (d' Q).row (by decide) rfl e
     have ac:=(z39 (a:=⟨g,o+k,none⟩) (hF.rest g bu ad)).trans (ao k bt);rw[z18 ab]at ac;have M:=z18 ab;have V:=(d' aB) k z[k] M;have aI:∀b,(z[k]).ownBlock=some b->¬ (Zc z k b\/Us F G b):=by
      rintro b hb (⟨j,hj,v,h1,h2⟩|e|e)
      ·exact(d' bc) j k v z[k] h1 M (by omega) b h2 hb
      ·exact av' V (d' Q).blk (by decide) (by rw[<-e];exact hb)
      ·exact aG' V (d' Q).row (by decide) hb e
     have aD:=hF.own V aI;have bw:=(d' bp) k;have aa:=(z15 V);obtain⟨aE,aJ⟩:=exq (z[k]);rw[<-aJ]at ac M V aI aD aa;have bz:=m' M;obtain⟨bK,bL,bg,_⟩:=Row.shape (A:=fun _=>True) ⟨by have:=aD;rw[<-Z']at this;exact this,fun _ _=>trivial⟩;rw[Z']at bg;have aq:=m' (cQ' (fun b o=>(b < wr.heap.size/\¬Us F H b)/\(A b o\/Zc z k b\/w.heap.size<=b)) (wr.alloc (.cells #[.slice none 0 0,aE, .slice none 0 0, .int .i64 0, .string ⟨#[]⟩, .string ⟨#[]⟩] 110)) F wr.heap.size ah ai H (.slice none 0 0) aE (.slice none 0 0) Y [] [] (J.getD k [])
      ⟨(z25 _ _ _ (z14 W.blk)).trans W.blk,z53 W.row _,fun x ap=>(W.all x ap).keep (fun b o h=>z39 (z25 wr _ b h.1.1))⟩
      (z19 wr _) (z27 _ _ _ _) (z53 aD _) (z27 _ _ _ _)
      (fun b o h=>⟨by have:=h.1.1;simp;omega,fun e=>by
       rcases e with e|(e|e|e)|e
       ·have:=h.1.1;omega
       ·cases e
       ·rcases h.2 with h2|⟨j,hj,v,h1,h2⟩|h2
        ·exact((d' aA) b o h2).2 (.inr (.inl ⟨k,ab,aE,M,e⟩))
        ·exact(d' bc) j k v aE h1 M (by omega) b h2 e
        ·have:=(aa b e).2;omega
       ·cases e
       ·exact h.1.2 e⟩) (by omega) (by omega) (by simp) (by simp))
     unfold D' at aq;have bM:=m' W;have I:=m' hF;have au:=m' aC;have bN:=m' aa;have bO:=m' aJ;clear W hF aC aI V aD ad ao bw aa M aJ bn;subst bg;go_upto_region 8 with (go_at_call 76;refine(d' aq).mono ?_;rintro r bA ⟨rfl,aK,aL,av,ax,ay,az⟩;have aM:=m' ax;have aN:=m' ay;have aO:=m' az;have aP:=m' av;clear ax ay az av);clear ac;go_wp2;go_roundw
     case rel=>
      have M:=d' bz;refine⟨k+1,aK,aL,by omega,by go_num,by have:=d' aP;omega,(d' aM).mono (fun b o h=>⟨h.1,?_⟩),?_,?_⟩
      ·rcases h.2 with h2|h2|h2|h2
       ·exact h2.2.elim .inl (fun h=>h.elim (fun h=> .inr (.inl (h.mono (by omega)))) (fun h=> .inr (.inr h)))
       ·exact .inr (.inr (by have:=(d' I).size;omega))
       ·rcases h2 with h2|h2|h2
        ·cases h2
        ·exact .inr (.inl ⟨k,by omega,_,M,h2⟩)
        ·cases h2
       ·exact .inr (.inr (by have:=(d' I).size;simp at h2;omega))
      ·have aQ:Far (fun b=>Zc z (k+1) b\/Us F G b) w wr:=(d' I).mono (fun b _ h=>h.elim (fun h=> .inl (h.mono (by omega))) .inr);refine(aQ.trans (C' (E:=fun b=>Zc z (k+1) b\/Us F G b) ((z11 wr.heap.size wr).alloc (z13 _) _)) (fun _ _ h=>h)).trans (d' aN) (fun b hb e=>?_);rcases e with e|(e|e|e)|e|e
       ·have:=(d' I).size;omega
       ·cases e
       ·exact .inl ⟨k,by omega,_,M,e⟩
       ·cases e
       ·exact .inr (.inl e)
       ·rcases d' au with h|h|⟨g',h,bB⟩
        ·rw[h]at e;cases e
        ·exact .inr (.inr (h ▸ e))
        ·rw[h]at e;injection e with e;omega
      ·exact cg' (d' au) ((d' aO).mono (by simp)) (d' I).size
     case measure=>simp[intOf];omega
    ·have aR:n=k:=(by omega);have ad:∀g,(Value.slice aj n ak).ownBlock=some g->¬ (Zc z k g\/Us F G g):=by
      rintro g aS (⟨j,hj,v,h1,h2⟩|e|e)
      ·exact aG' ((d' aB) j v h1) (d' O) (by decide) h2 aS
      ·exact av' (d' O) (d' Q).blk (by decide) (by rw[<-e];exact aS)
      ·exact aG' (d' O) (d' Q).row (by decide) aS e
     have bh:=hF.own (d' O) ad;have aa:=z15 (d' O);have aq:=m' (cQ' (fun b o=>(b < wr.heap.size/\¬Us F H b)/\(A b o\/Zc z k b\/w.heap.size<=b)) (wr.alloc (.cells #[.slice none 0 0, .slice none 0 0, .slice aj n ak, .int .i64 0, .string ⟨#[]⟩, .string ⟨#[]⟩] 110)) F wr.heap.size ah ai H (.slice none 0 0) (.slice none 0 0) (.slice aj n ak) Y [] z []
      ⟨(z25 _ _ _ (z14 W.blk)).trans W.blk,z53 W.row _,fun x ap=>(W.all x ap).keep (fun b o h=>z39 (z25 wr _ b h.1.1))⟩
      (z19 wr _) (z27 _ _ _ _) (z27 _ _ _ _) (by rw[<-d' Z];exact z53 bh _)
      (fun b o h=>⟨by have:=h.1.1;simp;omega,fun e=>by
       rcases e with e|(e|e|e)|e
       ·have:=h.1.1;omega
       ·cases e
       ·cases e
       ·rcases h.2 with h2|h2|h2
        ·exact((d' aA) b o h2).2 (.inl (by rw[<-d' Z];exact e))
        ·exact ad b e (.inl h2)
        ·have:=(aa b e).2;omega
       ·exact h.1.2 e⟩) (by omega) (by simp) (by simp) (by have:=d' Z;omega))
     unfold D' at aq;have I:=m' hF;have au:=m' aC;have bC:=m' aR;clear W hF aC ad bh aa aR hk;go_wp2_with (go_at_call 76;refine(d' aq).mono ?_;rintro r bA ⟨rfl,aK,aL,av,ax,ay,az⟩;have aM:=m' ax;have aN:=m' ay;have aO:=m' az;have aP:=m' av;clear ax ay az av);go_ret;have aR:=d' bC;refine⟨rfl,aK,aL,by have:=d' aP;omega,(d' aM).mono (fun b o h=>⟨h.1,?_⟩),?_,?_⟩
     ·rcases h.2 with h2|h2|h2|h2
      ·exact h2.2.elim .inl (fun h=>h.elim (fun h=> .inr (.inl (.inr (h.mono (by have:=d' Z;omega))))) (fun h=> .inr (.inr h)))
      ·exact .inr (.inr (by have:=(d' I).size;omega))
      ·rcases h2 with h2|h2|h2
       ·cases h2
       ·cases h2
       ·exact .inr (.inl (.inl h2))
      ·exact .inr (.inr (by have:=(d' I).size;simp at h2;omega))
     ·have aQ:Far (fun b=>((Value.slice aj n ak).ownBlock=some b\/Zc z n b)\/Us F G b) w wr:=(d' I).mono (fun b _ h=>h.elim (fun h=> .inl (.inr (h.mono (by have:=d' Z;omega)))) .inr);refine(aQ.trans (C' (E:=fun b=>((Value.slice aj n ak).ownBlock=some b\/Zc z n b)\/Us F G b) ((z11 wr.heap.size wr).alloc (z13 _) _)) (fun _ _ h=>h)).trans (d' aN) (fun b hb e=>?_);rcases e with e|(e|e|e)|e|e
      ·have:=(d' I).size;omega
      ·cases e
      ·cases e
      ·exact .inl (.inl e)
      ·exact .inr (.inl e)
      ·rcases d' au with h|h|⟨g',h,bB⟩
       ·rw[h]at e;cases e
       ·exact .inr (.inr (h ▸ e))
       ·rw[h]at e;injection e with e;omega
     ·exact cg' (d' au) ((d' aO).mono (by simp)) (d' I).size
def aH' (a:Mq.Sk) (l:List UInt8):Int×Mq.Sk×List z10:=
 if Qb.reads l=true then(0,bt' a (Qb.Jr l) (Qb.Jm l) (Qb.Qu l).toNat (Qb.Xt l).toNat (Qb.Ju l))else(1,a,[])
structure Qh (B:Nat) (w:World) (lv:Value) (fs:List Value) (Fl:List z10) (U:Nat->Prop):Prop where
 len:fs.length=Fl.length
 row:w.ownsRow B 44 1 lv fs.length fs
 each:∀ (j:Nat) (v:Value),fs[j]? =some v->w.ownsRow B 5 1 v ((Fl.map fun b=>b.data.toList).getD j []).length (bv ((Fl.map fun b=>b.data.toList).getD j []))
 apart:∀ (i j:Nat) (u v:Value),fs[i]? =some u->fs[j]? =some v->i≠j->∀g,u.ownBlock=some g->v.ownBlock≠some g
 clear:∀k,(lv.ownBlock=some k\/Zc fs fs.length k)->¬U k
structure cB' where
 At:World->Nat->Mq.Sk->(Nat->Prop)->Prop
 lt:∀ {w v a U},At w v a U->∀k,U k->k < w.heap.size
 far:∀ {w w' v a U E},At w v a U->Far E w w'->(∀k,U k->¬E k)->At w' v a U
 Qx:∀ {w v a U} (bs:Value) (l:List UInt8),At w v a U->Jh a->Qn w bs l->Calls prog 27 #[D' v,bs] w fun r w'=>
  ∃lv fs U',r= .returned (.tuple #[lv, .int .i64 (aH' a l).1])/\Qh w.heap.size w' lv fs (aH' a l).2.2 U'/\At w' v (aH' a l).2.1 U'/\Far U w w'/\∀k,U' k->U k\/w.heap.size<=k
 Qa:∀ {w v a U},At w v a U->Calls prog 42 #[D' v] w fun r w'=>r= .returned (.int .i64 a.Qa)/\Below w.heap.size w w'
 log:∀ {w v a U} (i:Int),At w v a U->Jh a->Calls prog 32 #[D' v, .int .i64 i] w fun r w'=>
  ∃lv,r= .returned lv/\w'.ownsRow w.heap.size 9 1 lv (if 0<=i/\i < 3 then a.Qc i.toNat else []).length (ao' (if 0<=i/\i < 3 then a.Qc i.toNat else []))/\Below w.heap.size w w'
 opened:∀ {w} (bs:Value),Qn w bs (List.replicate 7808 0)->Calls prog 38 #[bs] w fun r w'=>
  ∃v U,r= .returned (.tuple #[D' v, .int .i64 0])/\At w' v {Qa:=0,Qc:=fun _=>[],held:=[]} U/\Below w.heap.size w w'/\∀k,U k->w.heap.size<=k
structure Zh (C:cB') (x:World) (q sv rp:Nat) (a:Mq.Sk) (r:am') (lv:Nat->Value) (hk:Value) (U:Nat->Prop) (left:Int):Prop where
 blk:x.heap[q]? =some (.cells #[D' sv,D' rp, .bool false, .int .i64 left] 134 (0,0))
 Xb:C.At x sv a U
 ref:Jp x rp a r lv hk
 dead:r.dead=false
 Vw:Jh a
 qU:¬U q
 qR:¬SkU rp lv hk q
 UR:∀k,U k->¬SkU rp lv hk k
def aM' (q rp:Nat) (lv:Nat->Value) (hk:Value) (U:Nat->Prop) (k:Nat):Prop:=k=q\/SkU rp lv hk k\/U k
theorem Zh.far {C:cB'} {w x:World} {q sv rp:Nat} {a:Mq.Sk} {r:am'} {lv:Nat->Value} {hk:Value} {U:Nat->Prop} {left:Int} {E:Nat->Prop} (h:Zh C w q sv rp a r lv hk U left) (z:Far E w x) (F:∀k,aM' q rp lv hk U k->¬E k):Zh C x q sv rp a r lv hk U left:=
 ⟨z.blk h.blk (F q (.inl rfl)),C.far h.Xb z (fun k G=>F k (.inr (.inr G))),h.ref.far z (fun k G=>F k (.inr (.inl G))),h.dead,h.Vw,h.qU,h.qR,h.UR⟩
theorem Zh.lt {C:cB'} {w:World} {q sv rp:Nat} {a:Mq.Sk} {r:am'} {lv:Nat->Value} {hk:Value} {U:Nat->Prop} {left:Int} (h:Zh C w q sv rp a r lv hk U left):∀k,aM' q rp lv hk U k->k < w.heap.size:=by
 rintro k (rfl|z|z)
 ·exact z14 h.blk
 ·exact h.ref.lt k z
 ·exact C.lt h.Xb k z
theorem no' (w:World) (q sv rp:Nat) (left:Int) (h:w.heap[q]? =some (.cells #[D' sv,D' rp, .bool false, .int .i64 left] 134 (0,0))):
  Calls prog 171 #[.pointer (some ⟨q,2,none⟩)] w fun r w'=>r= .returned (.bool true)/\∃z,w'=w.setCell ⟨q,3,none⟩ (.int .i64 z):=by
 have c2:w.cell? ⟨q,2,none⟩=some (.bool false):=y' (i:=2) h;have c3:w.cell? ⟨q,3,none⟩=some (.int .i64 left):=y' (i:=3) h;have f3:=H' (i:=3) h;have c4:∀v,(w.setCell ⟨q,3,none⟩ v).cell? ⟨q,2,none⟩=some (.bool false):=fun v=>by have:=y' (i:=2) (aa' (j:=3) (v:=v) h);simpa using this
 clear h;go_enter func171,ntmps171;go_wp2;go_ret;exact⟨rfl,_,rfl⟩
structure Jn (N:Nat) (a:Mq.Ag):Prop where
 ep:a.Qa<=2147483647
 tk:a.Qf<=N
 sum:∀s,s < 3->(a.fl s).base+(a.fl s).kept.length<=N
 bod:∀s,s < 3->∀x∈ (a.fl s).kept,x.1.size<=20/\x.2<=N
theorem Jn.mono {N F:Nat} {a:Mq.Ag} (z:Jn N a) (h:N<=F):Jn F a:=
 ⟨z.ep,z26 z.tk h,fun s hs=>z26 (z.sum s hs) h,fun s hs x G=>⟨(z.bod s hs x G).1,z26 (z.bod s hs x G).2 h⟩⟩
theorem mt' (F:Jn w y) (s:Nat) (b:z10) (hb:b.size<=20):Jn (w+1) (y.Xi s b):=by
 refine⟨F.ep,wc' F.tk,fun t G=>?_,fun t G x z=>?_⟩
 ·have:=F.sum t G;unfold Mq.Ag.Xi Mq.upd;simp only
  split
  ·rename_i e;subst e;simp;omega
  ·omega
 ·unfold Mq.Ag.Xi Mq.upd at z;simp only at z;split at z
  ·rename_i e;subst e;rw[z61,z51]at z;rcases z with z|rfl
   ·exact⟨(F.bod t G x z).1,wc' (F.bod t G x z).2⟩
   ·exact⟨hb,z54 _⟩
  ·exact⟨(F.bod t G x z).1,wc' (F.bod t G x z).2⟩
theorem kO' (Qa s:Nat) (f:Mq.Jl) (Qf:Nat):∀i,∀y∈ (Mq.sendTo Qa s f Qf i).1,∃x∈f.kept,y.1=x.1/\(y.2=x.2\/y.2=Qf)
 |0=>fun y z=>⟨y,z,rfl, .inl rfl⟩
 |i+1=>by
  intro y z;have ih:=kO' Qa s f Qf i;rw[Mq.sendTo]at z;split at z
  ·exact ih y z
  ·rename_i x F;split at z
   ·rcases wb' z with z|rfl
    ·exact ih y z
    ·exact⟨x,z72 F,rfl, .inr rfl⟩
   ·exact ih y z
theorem pY' (z:Jn w y):Jn (w+1) y.tick.1:=by
 have h0:Jn (w+1) {y with Qf:=y.Qf+1}:=⟨z.ep,Nat.succ_le_succ z.tk,fun s hs=>wc' (z.sum s hs),fun s hs x F=>⟨(z.bod s hs x F).1,wc' (z.bod s hs x F).2⟩⟩;unfold Mq.Ag.tick;split
 ·exact h0
 ·split
  ·exact h0
  ·refine⟨z.ep,Nat.succ_le_succ z.tk,fun s hs=>?_,fun s hs H G=>?_⟩
   ·have:=z.sum s hs;simp only[Mq.Xe,if_pos hs,aI'];omega
   ·simp only[Mq.Xe,if_pos hs]at G;obtain⟨x,F,h1,h2⟩:=kO' _ _ _ _ _ H G;have h3:=z.bod s hs x F;refine⟨h1 ▸ h3.1,?_⟩;have:=z.tk;rcases h2 with h2|h2
    ·omega
    ·omega
theorem pZ' (z:Jn w y) (n:Nat->Nat) (hn:∀s,s < 3->n s<=(y.fl s).kept.length):Jn w (y.drop n):=by
 refine⟨z.ep,z.tk,fun s hs=>?_,fun s hs x F=>?_⟩
 ·have:=z.sum s hs;have:=hn s hs;simp only[Mq.Ag.drop,Mq.Xy,if_pos hs,Mq.Jl.drop,List.length_drop];omega
 ·simp only[Mq.Ag.drop,Mq.Xy,if_pos hs,Mq.Jl.drop]at F;exact z.bod s hs x (zw' F)
theorem kP' (z:Jn w y) (k e st q:Int) (b:z10):Jn w (y.Qx k e st q b):=by
 have F:=pZ' z (y.Xr k e st q b) (fun s _=>fa' y k e st q b s);unfold Mq.Ag.Qx;split
 ·exact⟨z.ep,z.tk,z.sum,z.bod⟩
 ·split
  ·exact z
  ·split
   ·exact⟨z.ep,z.tk,z.sum,z.bod⟩
   ·split
    ·refine⟨F.ep,F.tk,fun s hs=>?_,fun s hs x G=>?_⟩
     ·have:=F.sum s hs;simp only[Mq.fresh,if_pos hs,List.length_map];exact this
     ·simp only[Mq.fresh,if_pos hs]at G;obtain⟨I,J,rfl⟩:=z63.1 G;exact⟨(F.bod s hs I J).1,z54 _⟩
    ·split
     ·split
      ·exact z
      ·refine⟨F.ep,F.tk,fun s hs=>?_,fun s hs x G=>?_⟩
       ·have:=F.sum s hs;simp only[Mq.upd];split
        ·rename_i H;subst H;exact this
        ·exact this
       ·simp only[Mq.upd]at G;split at G
        ·rename_i H;subst H;exact F.bod _ hs x G
        ·exact F.bod s hs x G
     ·exact z
theorem qa' (R:Qk p w y H b z) (hd:H.dead=false) (F:Jn a y) (O:a+1<=2147483647):
  Calls prog 119 #[.pointer (some ⟨w,0,none⟩)] p fun x w'=>∃v n,x= .returned v/\w'.ownsRow p.heap.size 9 1 v n (er' y.tick.2)/\aU' p w' w y.tick.1 H b z:=by
 have J:y.Qf+1<=1000000000000000:=by have:=F.tk;omega
 unfold Mq.Ag.tick;cases G:y.fenced
 ·cases I:y.Qd
  ·refine(ms' R hd G I F.ep J).mono ?_;rintro x w' ⟨v,rfl,h1,h2⟩;exact⟨v,_,rfl,h1,by simpa[G,I]using h2⟩
  ·refine(om' R hd G I F.ep J (fun s hs=>by have:=F.sum s hs;omega) (fun s hs x M=>⟨(F.bod s hs x M).1,by have:=(F.bod s hs x M).2;omega⟩)).mono ?_;rintro x w' ⟨v,n,rfl,h1,h2⟩;exact⟨v,n,rfl,h1,by simpa[G,I]using h2⟩
 ·refine(kM' R hd G J).mono ?_;rintro x w' ⟨rfl,h2⟩;exact⟨_,0,rfl,z27 _ _ _ _,by simpa[G]using h2⟩
end Go.Proofs.YtamafdcnbcoegaaGreat
