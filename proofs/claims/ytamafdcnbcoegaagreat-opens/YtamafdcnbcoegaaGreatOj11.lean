/- Part 11. -/
import Derived.Test.YtamafdcnbcoegaaGreatOj10
set_option maxRecDepth 100000
set_option maxHeartbeats 40000000
namespace Go.Proofs.YtamafdcnbcoegaaGreat
attribute [local simp, local go_sem] Ev Ep Ei Eb Et
open Go.RowKit Go.Proofs.Tryz
theorem tg' (o c a b d:Nat) (F:o≠0) (w:World):(Op.equalIn 10000 217 (.agg #[.int .u32 o, .int .u64 c, .int .i64 a, .int .i64 b, .int .i64 d]) (.agg #[.int .u32 0, .int .u64 0, .int .i64 0, .int .i64 0, .int .i64 0])).run prog w= .ok false w:=by
 have z:((o:Int) ==0)=false:=by simp;omega
 rw[run_equalIn_struct w 9999 217 _ _ (by kernel_rfl) (by kernel_rfl)];simp[go_sem,z]
theorem vf' (h g:Mq.Hd):Mq.newer h.o h.c g.o g.c=Mq.Vp h g:=rfl
def xd' (L:List UInt8) (w:World) (r:Ending) (w':World):Prop:=
 ∃ (h:Mq.Hd) (k:Nat),r= .returned (.tuple #[gD' h, .int .i64 k, .bool (Mq.Xj L).isSome])/\(∀z F,Mq.Xj L=some (z,F)->h=z/\k=F)/\Below w.heap.size w w'
variable{m:List UInt8}{p u:World}
theorem lG' (h:Mq.Xj m=none) (h2:Mq.Hd) (k:Nat) (hb:Below p.heap.size p u):xd' m p (.returned (.tuple #[gD' h2, .int .i64 k, .bool false])) u:=
 ⟨h2,k,(by rw[h];rfl),(fun z F e=>(by rw[h]at e;cases e)),hb⟩
variable{w:Nat}
theorem iY' {h2:Mq.Hd} (h:Mq.Xj m=some (h2,w)) (hb:Below p.heap.size p u):xd' m p (.returned (.tuple #[gD' h2, .int .i64 w, .bool true])) u:=
 ⟨h2,w,(by rw[h];rfl),(fun z F e=>(by rw[h]at e;cases e;exact⟨rfl,rfl⟩)),hb⟩
theorem fi' (hb:Below p.heap.size p u) (z:p.heap.size<=w) (a b c d e:Value):Below p.heap.size p (((((u.setCell ⟨w,0,none⟩ a).setCell ⟨w,1,none⟩ b).setCell ⟨w,2,none⟩ c).setCell ⟨w,3,none⟩ d).setCell ⟨w,4,none⟩ e):=
 ((((hb.setCell (p:=⟨w,0,none⟩) z _).setCell (p:=⟨w,1,none⟩) z _).setCell (p:=⟨w,2,none⟩) z _).setCell (p:=⟨w,3,none⟩) z _).setCell (p:=⟨w,4,none⟩) z _
theorem lH' (w:World) (v:Value) (L:List UInt8) (br:Qn w v L) (bV:128<=L.length) (bE:L.length<=10000):
  Calls prog 146 #[v] w (xd' L w):=by
 have aX:=fun(k:Nat) (hk:64 * k+64<=L.length) y (hb:Below w.heap.size w y)=>m' (ic' y v L k (br.below hb) hk bE);have aY:=aX 0 (by omega);have aZ:=aX 1 (by omega);have ba:=fun y=>m' (in' (Mq.sec L 0) (Mq.We (by omega)) y);have bb:=fun y=>m' (in' (Mq.sec L 1) (Mq.We (by omega)) y);have aK:Mq.Xj L=if Mq.Jz (Mq.sec L 0)=true/\Mq.Jz (Mq.sec L 1)=true then
  if Mq.Vp (Mq.Qm (Mq.sec L 1)) (Mq.Qm (Mq.sec L 0))=true then some (Mq.Qm (Mq.sec L 1),1)
  else if Mq.Vp (Mq.Qm (Mq.sec L 0)) (Mq.Qm (Mq.sec L 1))=true then some (Mq.Qm (Mq.sec L 0),0)
  else if(Mq.Qm (Mq.sec L 0)).o=0/\(Mq.Qm (Mq.sec L 1)).o=0 then some (Mq.hd0,0)else none
 else none:=rfl
 have bc:Mq.Jz (Mq.sec L 0)=true->(Mq.Qm (Mq.sec L 0)).o=0->Mq.Qm (Mq.sec L 0)=Mq.hd0:=fun h e=>by
  rcases Mq.Ve h with ⟨_,ab⟩|⟨ab,_⟩
  ·exact ab
  ·rw[e]at ab;cases ab
 have aA:Mq.Jz (Mq.sec L 1)=true->(Mq.Qm (Mq.sec L 1)).o=0->Mq.Qm (Mq.sec L 1)=Mq.hd0:=fun h e=>by
  rcases Mq.Ve h with ⟨_,ab⟩|⟨ab,_⟩
  ·exact ab
  ·rw[e]at ab;cases ab
 obtain⟨bd,aL⟩:=exq (Mq.sec L 0);obtain⟨be,aM⟩:=exq (Mq.sec L 1);unfold Mq.sec at aL aM;rw[<-aL]at aY;rw[<-aM]at aZ;have aN:Mq.sec L 0=bd:=aL.symm;have aO:Mq.sec L 1=be:=aM.symm;rw[aN]at ba aK bc;rw[aO]at bb aK aA;clear aX aL aM aN aO br;generalize Mq.Jz bd=k0 at *;generalize Mq.Jz be=k1 at *;generalize Mq.Qm bd=bF at *;generalize Mq.Qm be=bG at *;have ap:=m' aK;have aq:=m' bc;have av:=m' aA;clear aK bc aA;go_enter func146,ntmps146;go_upto_region 2 with (first
  |(go_at_call 195;refine(d' (aY _ ((z11 _ _).alloc (z13 _) _))).mono ?_;rintro r y ⟨rfl,aP⟩)
  |(go_at_call 194;refine(d' (ba _)).mono ?_;rintro r bf ⟨f,rfl,bt,aQ⟩;unfold gD'))
 have aC:=m' bt;clear bt;have aA:=aP.size;have bH:=aQ.size;simp only[World.size_alloc]at aA;have bu:bf.heap[w.heap.size]? =some (.cells #[.int .u32 0, .int .u64 0, .int .i64 0, .int .i64 0, .int .i64 0] 217 (0,0)):=(aQ.block _ (by omega)).trans ((aP.block _ (by simp)).trans (z19 w _));have bw:Below w.heap.size w bf:=(((z11 _ _).alloc (z13 _) _).trans (aP.mono (by simp))).trans (aQ.mono (by omega));obtain⟨F,bg⟩:=exq (bf.heap.size);rw[<-bg];refine G' (fun x=>x.heap[w.heap.size]? =some (.cells #[.int .u32 0, .int .u64 0, .int .i64 0, .int .i64 0, .int .i64 0] 217 (0,0))/\x.heap[F]? =some (.cells #[.int .u32 f.o, .int .u64 f.c, .int .i64 f.a, .int .i64 f.b, .int .i64 f.d] 217 (0,0))/\Below w.heap.size w x) ?_ ?_
 ·exact⟨(hao _ _ (by omega)).trans bu,by rw[bg];exact z19 _ _,bw.alloc (by omega) _⟩
 have bW:w.heap.size < F:=by omega
 clear bu bw aA bH aP aQ bg;rintro x ⟨h0,h5,aD⟩;have ac:=m' h0;have J:=m' h5;have I:=m' aD;have bI:=z14 h5;clear h0 h5 aD;go_upto_region 3 with (first
  |(go_at_call 195;refine(d' (aZ x (d' I))).mono ?_;rintro r bX ⟨rfl,bh⟩)
  |(go_at_call 194;refine(d' (bb _)).mono ?_;rintro r bz ⟨s,rfl,bA,bi⟩;unfold gD'))
 have aE:=m' bA;have bB:=bh.size;have bJ:=bi.size;obtain⟨G,bj⟩:=exq (bz.heap.size);rw[<-bj];refine G' (fun x=>x.heap[w.heap.size]? =some (.cells #[.int .u32 0, .int .u64 0, .int .i64 0, .int .i64 0, .int .i64 0] 217 (0,0))/\x.heap[F]? =some (.cells #[.int .u32 f.o, .int .u64 f.c, .int .i64 f.a, .int .i64 f.b, .int .i64 f.d] 217 (0,0))/\x.heap[G]? =some (.cells #[.int .u32 s.o, .int .u64 s.c, .int .i64 s.a, .int .i64 s.b, .int .i64 s.d] 217 (0,0))/\Below w.heap.size w x) ?_ ?_
 ·have hb:Below x.heap.size x bz:=bh.trans (bi.mono bB);exact⟨(hao _ _ (by omega)).trans ((hb.block _ (by omega)).trans (d' ac)),(hao _ _ (by omega)).trans ((hb.block _ (by omega)).trans (d' J)),by rw[bj];exact z19 _ _,((d' I).trans (hb.mono (by omega))).alloc (by omega) _⟩
 have bY:F < G:=by omega
 clear ac J I bh bi bB bJ bj bI bA aY aZ ba bb;rintro aF ⟨h0,h5,aR,aD⟩;obtain⟨M,O,Q,V,Y⟩:=dn' h0;have aG:∀i,aF.frozen? ⟨w.heap.size,i,none⟩=false:=fun i=>H' h0;obtain⟨ad,ah⟩:=eE' h5;obtain⟨ai,aj⟩:=eE' aR;have ac:=m' h0;have J:=m' h5;have ak:=m' aR;have I:=m' aD;have bZ:=z14 aR;clear h0 h5 aR aD;cases k0 with
 |false=>clear aC aE aq av ad ah ai aj J ak;go_wp2;refine z50 (v:= .tuple #[.agg #[.int .u32 0, .int .u64 0, .int .i64 0, .int .i64 0, .int .i64 0], .int .i64 0, .bool false]) (by simp[results,results146,go_sem,M,O,Q,V,Y]) rfl ?_;exact lG' (by rw[d' ap];simp) Mq.hd0 0 (fi' (d' I) (z13 _) _ _ _ _ _)
 |true=>
  obtain rfl:f=bF:=(d' aC) rfl;cases k1 with
  |false=>clear aC aE aq av ad ah ai aj J ak;go_wp2;refine z50 (v:= .tuple #[.agg #[.int .u32 0, .int .u64 0, .int .i64 0, .int .i64 0, .int .i64 0], .int .i64 0, .bool false]) (by simp[results,results146,go_sem,M,O,Q,V,Y]) rfl ?_;exact lG' (by rw[d' ap];simp) Mq.hd0 0 (fi' (d' I) (z13 _) _ _ _ _ _)
  |true=>
   obtain rfl:s=bG:=(d' aE) rfl;have ax:=fun y=>m' (jE' s.o s.c f.o f.c y);have aB:=fun y=>m' (jE' f.o f.c s.o s.c y);rw[vf']at ax aB;cases n1:Mq.Vp s f with
   |true=>
    go_upto_region 6 with (go_at_call 196;refine(d' (ax _)).mono ?_;rw[n1];rintro r bk ⟨rfl,H⟩)
    have bC:=H.size;have ay:=(H.block _ (by omega)).trans (d' ac);have aS:=(H.block _ (by omega)).trans (d' J);have aT:=(H.block _ (by omega)).trans (d' ak);have au:=m' ((d' I).trans (H.mono (d' I).size));clear H ad ah ai aj M O Q V Y aG ax aB aq av;obtain⟨aN,aO,ab,bK,bL⟩:=dn' aT;obtain⟨M,O,Q,V,Y⟩:=dn' ay;have aG:∀i,bk.frozen? ⟨w.heap.size,i,none⟩=false:=fun i=>H' ay;clear ay aS aT ac J ak I;have aU:=m' n1;clear n1;go_wp2;refine z50 (v:= .tuple #[.agg #[.int .u32 s.o, .int .u64 s.c, .int .i64 s.a, .int .i64 s.b, .int .i64 s.d], .int .i64 1, .bool true]) (by simp[results,results146,go_sem,M,O,Q,V,Y]) rfl ?_;exact iY' (by rw[d' ap,d' aU];simp) (fi' (d' au) (z13 _) _ _ _ _ _)
   |false=>
    cases n2:Mq.Vp f s with
    |true=>
     go_upto_region 7 with (go_at_call 196;refine(d' (ax _)).mono ?_;rw[n1];rintro r bk ⟨rfl,H⟩)
     have ad:=(H.cell (p:=⟨F,0,none⟩) (by show F < _;omega)).trans ad;have ah:=(H.cell (p:=⟨F,1,none⟩) (by show F < _;omega)).trans ah;have ai:=(H.cell (p:=⟨G,0,none⟩) (by show G < _;omega)).trans ai;have aj:=(H.cell (p:=⟨G,1,none⟩) (by show G < _;omega)).trans aj;have bl:=H.size;have aH:=m' H;clear H;go_upto_region 8 with (go_at_call 196;refine(d' (aB _)).mono ?_;rw[n2];rintro r aV ⟨rfl,aI⟩);have hb:Below aF.heap.size aF aV:=(d' aH).trans (aI.mono bl);clear aI aH;have bC:=hb.size;have ay:=(hb.block _ (by omega)).trans (d' ac);have aS:=(hb.block _ (by omega)).trans (d' J);have aT:=(hb.block _ (by omega)).trans (d' ak);have au:=m' ((d' I).trans (hb.mono (d' I).size));clear hb ad ah ai aj M O Q V Y aG ax aB aq av;obtain⟨aN,aO,ab,bK,bL⟩:=dn' aS;obtain⟨M,O,Q,V,Y⟩:=dn' ay;have aG:∀i,aV.frozen? ⟨w.heap.size,i,none⟩=false:=fun i=>H' ay;clear ay aS aT ac J ak I;have aU:=m' (z12 n1 n2);clear n1 n2;go_wp2;refine z50 (v:= .tuple #[.agg #[.int .u32 f.o, .int .u64 f.c, .int .i64 f.a, .int .i64 f.b, .int .i64 f.d], .int .i64 0, .bool true]) (by simp[results,results146,go_sem,M,O,Q,V,Y]) rfl ?_;exact iY' (by rw[d' ap,(d' aU).1,(d' aU).2];simp) (fi' (d' au) (z13 _) _ _ _ _ _)
    |false=>
     go_upto_region 7 with (go_at_call 196;refine(d' (ax _)).mono ?_;rw[n1];rintro r bk ⟨rfl,H⟩)
     have ad:=(H.cell (p:=⟨F,0,none⟩) (by show F < _;omega)).trans ad;have ah:=(H.cell (p:=⟨F,1,none⟩) (by show F < _;omega)).trans ah;have ai:=(H.cell (p:=⟨G,0,none⟩) (by show G < _;omega)).trans ai;have aj:=(H.cell (p:=⟨G,1,none⟩) (by show G < _;omega)).trans aj;have bl:=H.size;have aH:=m' H;clear H;go_upto_region 9 with (go_at_call 196;refine(d' (aB _)).mono ?_;rw[n2];rintro r aV ⟨rfl,aI⟩);have hb:Below aF.heap.size aF aV:=(d' aH).trans (aI.mono bl);clear aI aH;have bC:=hb.size;have ac:=m' ((hb.block _ (by omega)).trans (d' ac));have J:=m' ((hb.block _ (by omega)).trans (d' J));have ak:=m' ((hb.block _ (by omega)).trans (d' ak));have au:=m' ((d' I).trans (hb.mono (d' I).size));clear hb ad ah ai aj M O Q V Y aG ax aB I;by_cases az:f.o=0
     ·have bm:s.o=0:=by
       have aW:=(d' aq) (by trivial) az;rw[aW]at n1;unfold Mq.Vp Mq.hd0 at n1;simp only at n1;by_cases h:s.o=0
       ·exact h
       ·rw[if_pos h,z47 (by omega)]at n1;cases n1
      have aW:=(d' aq) (by trivial) az;have bD:=(d' av) (by trivial) bm;have bn:Hid (Mq.Xj L=some (Mq.hd0,0)):=(by show _= _;rw[d' ap,n1,n2];simp[az,bm]);rw[aW]at J;rw[bD]at ak;clear ap aq av aC aE n1 n2 aW bD az bm;have bM:∀y:World,(Op.equalIn 10000 217 (.agg #[.int .u32 0, .int .u64 0, .int .i64 0, .int .i64 0, .int .i64 0]) (.agg #[.int .u32 0, .int .u64 0, .int .i64 0, .int .i64 0, .int .i64 0])).run prog y= .ok true y:=fun y=>(by kernel_rfl);refine af'
       [Ev (.agg #[.int .u32 0, .int .u64 0, .int .i64 0, .int .i64 0, .int .i64 0]),Ev (.agg #[.int .u32 0, .int .u64 0, .int .i64 0, .int .i64 0, .int .i64 0]),Ev (.agg #[.int .u32 0, .int .u64 0, .int .i64 0, .int .i64 0, .int .i64 0]),Eb true,Eb true,Ev (.agg #[.int .u32 0, .int .u64 0, .int .i64 0, .int .i64 0, .int .i64 0]),Ev (.agg #[.int .u32 0, .int .u64 0, .int .i64 0, .int .i64 0, .int .i64 0]),Eb true,Eb true,fun _ z=>z.heap[w.heap.size]? =some (.cells #[.int .u32 0, .int .u64 0, .int .i64 0, .int .i64 0, .int .i64 0] 217 (0,0)),Ei 0,Eb true]
       [[],[5],[],[2044,3045],[4046],[7,5047],[5047],[6048,7049,5047],[5047,8050],[2,1043],[],[9051]] [44,45,46,47,48,49,50,51,52,0,4,5] [3,2,38,9]
       [(9,fun k=>k=w.heap.size)] ?_ ?_ (hst:=by repeat' (first|exact V' _|exact aj'|exact ca' _ _|exact trivial|apply z12))
      ·refine⟨?_,?_,?_,?_,?_,?_,?_,?_,?_,?_,?_,?_,trivial⟩;all_goals
        intro a z hb Z;have z5:=hb.blk (d' J) (ay' (by intro (e:F=w.heap.size);omega));have aa:=hb.blk (d' ak) (ay' (by intro (e:G=w.heap.size);omega));have ad:z.cell? ⟨F,0,none⟩=some (.int .u32 0):=y' (i:=0) z5;have ai:z.cell? ⟨G,0,none⟩=some (.int .u32 0):=y' (i:=0) aa;have ah:z.cell? ⟨F,1,none⟩=some (.int .u64 0):=y' (i:=1) z5;have aj:z.cell? ⟨G,1,none⟩=some (.int .u64 0):=y' (i:=1) aa;have bN:z.cell? ⟨F,2,none⟩=some (.int .i64 0):=y' (i:=2) z5;have bO:z.cell? ⟨G,2,none⟩=some (.int .i64 0):=y' (i:=2) aa;have bP:z.cell? ⟨F,3,none⟩=some (.int .i64 0):=y' (i:=3) z5;have bQ:z.cell? ⟨G,3,none⟩=some (.int .i64 0):=y' (i:=3) aa;have bR:z.cell? ⟨F,4,none⟩=some (.int .i64 0):=y' (i:=4) z5;have bS:z.cell? ⟨G,4,none⟩=some (.int .i64 0):=y' (i:=4) aa;clear z5 aa;simp[I']at Z
       iterate 5
        ·clear hb;go_simp;exact⟨_,rfl,Far.refl _ _,rfl⟩
       iterate 3
        ·clear hb;have bT:a.tmps[47]? =some (.bool true):=dR' (by first|exact Z|exact Z.2|exact Z.2.2);go_simp;exact⟨_,rfl,Far.refl _ _,rfl⟩
       ·clear hb;go_simp;exact⟨_,rfl,Far.refl _ _,rfl⟩
       ·have z0:=hb.blk (d' ac) bD';clear hb;rw[if_pos (by rfl)];refine iH' 217 (.tmp 2) (.tmp 43) rfl w.heap.size #[.int .u32 0, .int .u64 0, .int .i64 0, .int .i64 0, .int .i64 0] (by simp[Act.eval,Z]) (by simp[Act.eval,Z]) 217 _ z0 (by rw[iN'];rfl) (by simp) (by rw[z49];intro u hu;simp at hu;rcases hu with rfl|rfl|rfl <;> rfl) ?_;exact⟨_,rfl,an' (.head _) (bp' _ _ _),z92 _ _ _ _ _ _ z0⟩
       iterate 2
        ·clear hb;go_simp;exact⟨_,rfl,Far.refl _ _,rfl⟩
      ·intro bU z hF ao;have aJ:=ao.2.2.2.2.2.2.2.2.2.1;have bo:=ao.2.2.2.2.2.2.2.2.2.2.1;have bp:=ao.2.2.2.2.2.2.2.2.2.2.2.1;obtain⟨M,O,Q,V,Y⟩:=dn' aJ;have bq:=m' ((d' au).trans ((dM' hF).below (d' au).size (fun k hk (h:k=w.heap.size)=>by omega)));clear ao hF aJ;simp only[O',bo,bp];go_simp;go_wp2;refine z50 (v:= .tuple #[.agg #[.int .u32 0, .int .u64 0, .int .i64 0, .int .i64 0, .int .i64 0], .int .i64 0, .bool true]) (by simp[results,results146,go_sem,M,O,Q,V,Y]) rfl ?_;exact iY' (h2:=Mq.hd0) (d' bn) (d' bq)
     ·have bn:Hid (Mq.Xj L=none):=(by show _= _;rw[d' ap,n1,n2];simp[az]);have bM:=fun y=>tg' f.o f.c f.a f.b f.d az y;clear ap aq av aC aE n1 n2 az;refine af'
       [Ev (.agg #[.int .u32 0, .int .u64 0, .int .i64 0, .int .i64 0, .int .i64 0]),Ev (.agg #[.int .u32 f.o, .int .u64 f.c, .int .i64 f.a, .int .i64 f.b, .int .i64 f.d]),Ev (.agg #[.int .u32 0, .int .u64 0, .int .i64 0, .int .i64 0, .int .i64 0]),Eb false,Eb false,Et,Et,Et,Eb false,fun _ z=>z.heap[w.heap.size]? =some (.cells #[.int .u32 0, .int .u64 0, .int .i64 0, .int .i64 0, .int .i64 0] 217 (0,0)),Ei 0,Eb false]
       [[],[5],[],[2044,3045],[4046],[7,5047],[5047],[6048,7049,5047],[5047,8050],[2,1043],[],[9051]] [44,45,46,47,48,49,50,51,52,0,4,5] [3,2,38,9]
       [(9,fun k=>k=w.heap.size)] ?_ ?_ (hst:=by repeat' (first|exact V' _|exact aj'|exact ca' _ _|exact trivial|apply z12))
      ·refine⟨?_,?_,?_,?_,?_,?_,?_,?_,?_,?_,?_,?_,trivial⟩;all_goals
        intro a z hb Z;have z5:=hb.blk (d' J) (ay' (by intro (e:F=w.heap.size);omega));have aa:=hb.blk (d' ak) (ay' (by intro (e:G=w.heap.size);omega));have ad:z.cell? ⟨F,0,none⟩=some (.int .u32 f.o):=y' (i:=0) z5;have ai:z.cell? ⟨G,0,none⟩=some (.int .u32 s.o):=y' (i:=0) aa;have ah:z.cell? ⟨F,1,none⟩=some (.int .u64 f.c):=y' (i:=1) z5;have aj:z.cell? ⟨G,1,none⟩=some (.int .u64 s.c):=y' (i:=1) aa;have bN:z.cell? ⟨F,2,none⟩=some (.int .i64 f.a):=y' (i:=2) z5;have bO:z.cell? ⟨G,2,none⟩=some (.int .i64 s.a):=y' (i:=2) aa;have bP:z.cell? ⟨F,3,none⟩=some (.int .i64 f.b):=y' (i:=3) z5;have bQ:z.cell? ⟨G,3,none⟩=some (.int .i64 s.b):=y' (i:=3) aa;have bR:z.cell? ⟨F,4,none⟩=some (.int .i64 f.d):=y' (i:=4) z5;have bS:z.cell? ⟨G,4,none⟩=some (.int .i64 s.d):=y' (i:=4) aa;clear z5 aa;simp[I']at Z
       iterate 5
        ·clear hb;go_simp;exact⟨_,rfl,Far.refl _ _,rfl⟩
       iterate 3
        ·clear hb;have bT:a.tmps[47]? =some (.bool false):=dR' (by first|exact Z|exact Z.2|exact Z.2.2);go_simp;try trivial
       ·clear hb;go_simp;exact⟨_,rfl,Far.refl _ _,rfl⟩
       ·have z0:=hb.blk (d' ac) bD';clear hb;rw[if_pos (by rfl)];refine iH' 217 (.tmp 2) (.tmp 43) rfl w.heap.size #[.int .u32 0, .int .u64 0, .int .i64 0, .int .i64 0, .int .i64 0] (by simp[Act.eval,Z]) (by simp[Act.eval,Z]) 217 _ z0 (by rw[iN'];rfl) (by simp) (by rw[z49];intro u hu;simp at hu;rcases hu with rfl|rfl|rfl <;> rfl) ?_;exact⟨_,rfl,an' (.head _) (bp' _ _ _),z92 _ _ _ _ _ _ z0⟩
       iterate 2
        ·clear hb;go_simp;exact⟨_,rfl,Far.refl _ _,rfl⟩
      ·intro bU z hF ao;have aJ:=ao.2.2.2.2.2.2.2.2.2.1;have bo:=ao.2.2.2.2.2.2.2.2.2.2.1;have bp:=ao.2.2.2.2.2.2.2.2.2.2.2.1;obtain⟨M,O,Q,V,Y⟩:=dn' aJ;have bq:=m' ((d' au).trans ((dM' hF).below (d' au).size (fun k hk (h:k=w.heap.size)=>by omega)));clear ao hF aJ;simp only[O',bo,bp];go_simp;go_wp2;refine z50 (v:= .tuple #[.agg #[.int .u32 0, .int .u64 0, .int .i64 0, .int .i64 0, .int .i64 0], .int .i64 0, .bool false]) (by simp[results,results146,go_sem,M,O,Q,V,Y]) rfl ?_;exact lG' (d' bn) Mq.hd0 0 (d' bq)
theorem lI' (S:List UInt8) (F:S.length=64) (last:Nat) (w:World):Calls prog 197 #[.agg (bv S).toArray, .int .u32 last] w fun r w'=>
  ∃h:Mq.Rc,r= .returned (.tuple #[xc' h, .bool (Mq.Xu S last)])/\(Mq.Xu S last=true->h=Mq.Zr S)/\Below w.heap.size w w':=by
 by_cases z:S=bd'
 ·subst z;refine(jX' w last).mono ?_;rintro r y ⟨rfl,hb⟩;have h1:Mq.Xu bd' last=true:=by unfold Mq.Xu;rw[ce'];simp
  refine⟨Mq.rc0,(by rw[h1];rfl),fun _=>?_,hb⟩;unfold Mq.Zr;rw[ce',if_pos rfl]
 ·refine(kb' S F z last w).mono ?_;rintro r y ⟨h,rfl,h2,hb⟩;refine⟨h,rfl,fun hk=>?_,hb⟩;rw[h2 hk];unfold Mq.Zr;rw[ce',if_neg z]
def df':List Mq.Rc->List Value
 |[]=>[]
 |r::l=> .int .i64 r.s:: .int .i64 r.q:: .string r.b::df' l
theorem dV':∀l,(df' l).length=l.length * 3
 |[]=>rfl
 |r::l=>by simp[df',dV' l];omega
theorem nD':∀ (l k:List Mq.Rc),df' (l++k)=df' l++df' k
 |[],k=>rfl
 |r::l,k=>by simp[df',nD' l k]
theorem iZ':∀ (l:List Mq.Rc) (j:Nat) (r:Mq.Rc),l[j]? =some r->(df' l)[j * 3]? =some (.int .i64 r.s)/\(df' l)[j * 3+1]? =some (.int .i64 r.q)/\(df' l)[j * 3+2]? =some (.string r.b)
 |[],j,r,h=>by simp at h
 |x::l,0,r,h=>by simp at h;subst h;exact⟨rfl,rfl,rfl⟩
 |x::l,j+1,r,h=>by have:=iZ' l j r (by simpa using h);rw[show(j+1) * 3=j * 3+1+1+1 by omega,show j * 3+1+1+1+1=j * 3+1+1+1+1 from rfl];exact this
def ep' (L:List UInt8) (k:Nat):List Mq.Rc:=(List.range k).map fun x=>Mq.Zr (Mq.sec L (2+x))
theorem ri' (L:List UInt8) (k:Nat):ep' L (k+1)=ep' L k++[Mq.Zr (Mq.sec L (2+k))]:=by
 simp[ep',List.range_succ]
theorem io' {L:List UInt8} {last:Nat}:∀ (n x:Nat),(∀y,x<=y->y < x+n->Mq.Xu (Mq.sec L (2+y)) last=true)->Mq.recsFrom L last x n=some ((List.range n).map fun j=>Mq.Zr (Mq.sec L (2+(x+j))))
 |0,_,_=>rfl
 |n+1,x,h=>by have ih:=io' n (x+1) (fun y z F=>h y (by omega) (by omega));rw[Mq.recsFrom,if_pos (h x (z13 _) (by omega)),ih,zT'];simp;intro a _;rw[xK',ze' 1 a]
variable{a:Nat}
theorem rj' (h:∀y,y < a->Mq.Xu (Mq.sec m (2+y)) w=true):Mq.recsFrom m w 0 a=some (ep' m a):=by
 have:=io' (L:=m) (last:=w) a 0 (fun y _ z=>h y (by omega));simpa[ep']using this
theorem oT' {y:Nat} (z:y < a) (h:Mq.Xu (Mq.sec m (2+y)) w=false):Mq.recsFrom m w 0 a=none:=by
 cases F:Mq.recsFrom m w 0 a with
 |none=>rfl
 |some rs=>have:=((Mq.Xk a 0 F).2 y z).1;rw[z44,h]at this;cases this
theorem kc' (w:World) (v:Value) (L:List UInt8) (m:Nat) (last:Nat) (au:Qn w v L) (av:L.length=m * 64) (bd:2<=m) (be:m<=150):
  Calls prog 147 #[v, .int .u32 last] w fun r w'=>∃rv,r= .returned (.tuple #[rv, .bool (Mq.recsFrom L last 0 (m - 2)).isSome])/\(∀rs,Mq.recsFrom L last 0 (m - 2)=some rs->w'.ownsRow w.heap.size 155 3 rv (m - 2) (df' rs))/\Below w.heap.size w w':=by
 obtain⟨i0,hi,F,G,H⟩:=au' wB';have I:=fun(k:Nat) (hk:64 * k+64<=L.length) y (hb:Below w.heap.size w y)=>m' (ic' y v L k (au.below hb) hk (by omega));have J:=fun(k:Nat) (hk:k * 64+64<=L.length)=>Mq.We hk;obtain⟨bf,cap,rfl,ax,ay,aT⟩:=au;clear aT;have aU:(((m * 64:Nat):Int)).tdiv 64=(m:Int):=by rw[Int.natCast_mul];exact Int.mul_tdiv_cancel _ (by omega)
 obtain⟨n,hn⟩:=exq (m * 64);rw[av]at ax ay I J ⊢;rw[<-hn]at aU I J ax ay ⊢;have Z:∀j,j < m->64 * j+64<=n:=by intro j hj;omega
 clear hn av;go_enter func147,ntmps147;go_wp2;go_loopw[6,7,8,9] (fun v6 i _ _ wr=>∃j:Nat,2<=j/\j<=m/\i= .int .i64 j/\wr.ownsRow w.heap.size 155 3 v6 (j - 2) (df' (ep' L (j - 2)))/\Below w.heap.size w wr/\∀y,y < j - 2->Mq.Xu (Mq.sec L (2+y)) last=true) (fun _ i _ _ _=>m - (intOf i).toNat)
 case atStart=>exact⟨2,by omega,by omega,rfl,z27 _ _ _ _,z11 _ _,fun y aV=>by omega⟩
 case round=>
  obtain⟨j,bg,bh,rfl,M,hb,O⟩:=hrel;by_cases az:j < m
  ·have aa:=d' (I j (Z j az) wr hb);have aA:=fun y=>m' (lI' (Mq.sec L j) (J j (by have:=Z j az;omega)) last y);have aB:Mq.sec L j=(L.drop (j * 64)).take 64:=rfl;rw[<-aB]at aa;have Q:2+(j - 2)=j:=(by omega);have aC:ep' L (j - 2+1)=ep' L (j - 2)++[Mq.Zr (Mq.sec L j)]:=(by rw[ri',Q]);have aD:Mq.Xu (Mq.sec L j) last=false->Mq.recsFrom L last 0 (m - 2)=none:=fun h=>oT' (y:=j - 2) (by omega) (by rw[Q];exact h);have aE:Mq.Xu (Mq.sec L j) last=true->∀y,y < j+1 - 2->Mq.Xu (Mq.sec L (2+y)) last=true:=fun h y aV=>by
    by_cases e:y < j - 2
    ·exact O y e
    ·obtain rfl:y=j - 2:=(by omega);rw[Q];exact h
   clear aB Q O;generalize Mq.Xu (Mq.sec L j) last=ok at *;generalize Mq.Zr (Mq.sec L j)=R at *;generalize Mq.sec L j=S at *;obtain⟨ab,V⟩:=exq (df' (ep' L (j - 2)));have aF:ab.length=(j - 2) * 3:=by rw[V,dV'];simp[ep']
   have aG:df' (ep' L (j - 2+1))=ab++[.int .i64 R.s, .int .i64 R.q, .string R.b]:=(by rw[aC,nD',<-V];rfl);rw[<-V]at M;clear V aC;have ac:=m' M;have aH:=m' aa;have aI:=m' hb;have aW:=hb.size;have aX:=m' aF;have Y:=m' (z12 aG (z12 aD aE));clear M hb aa I J Z aF aG aD aE;have aJ:=m' (z12 hi (z12 F (z12 G H)));clear hi F G H;go_upto_region 6 with (first
    |(go_at_call 195;refine(d' aH).mono ?_;rintro r y ⟨rfl,ad⟩)
    |(go_at_call 197;refine(d' (aA _)).mono ?_;rintro r aK ⟨z,rfl,aL,aM⟩;unfold xc'))
   have ah:Below wr.heap.size wr aK:=ad.trans (aM.mono ad.size);have aY:=m' aL;obtain⟨aZ,ai⟩:=exq (aK.heap.size);rw[<-ai];refine G' (fun x=>x.heap[aZ]? =some (.cells #[.int .i64 z.s, .int .i64 z.q, .string z.b] 155 (0,0))/\Below wr.heap.size wr x) ?_ ?_
   ·exact⟨by rw[ai];exact z19 _ _,ah.alloc ah.size _⟩
   clear ad aM ah ai aA aL;rintro x ⟨aN,aj⟩;obtain⟨bi,bj,bk⟩:=gF' aN;have aO:=aC' (w':=x) (d' ac) (fun g ba=>aj.block g (z15 (d' ac) g ba).2);have ak:Below w.heap.size w x:=(d' aI).trans (aj.mono aW);have ao:=m' aO;have aP:=m' ak;have bb:=ak.size;clear aN aj aO ak ac aI;cases ok with
   |false=>have aQ:=(d' Y).2.1 rfl;clear Y ao aJ aX aH;go_wp2;go_ret2;refine⟨.slice none 0 0,by rw[aQ];rfl,fun rs h=>?_,d' aP⟩;rw[aQ]at h;cases h
   |true=>
    obtain rfl:z=R:=(d' aY) (by trivial);go_upto_region 4 with (at_builtin;obtain⟨hi,F,G,H⟩:=d' aJ;refine z62 _ rfl (.tmp 27) (.tmp 29) 185 rfl w.heap.size 155 i0 _ 3 32 underlying185 hi F G H rfl (by decide) u6 (j - 2) ab rfl ((d' ao).alloc _) ⟨x.heap.size,0,none⟩ 1 1 [.int .i64 z.s, .int .i64 z.q, .string z.b] rfl rfl aq' (by intro u hu;simp at hu;rcases hu with rfl|rfl|rfl <;> rfl) (by unfold maxLen;omega) (by omega) (by simp;omega) ?_;intro v' w1 ap aR _;have aq:Below w.heap.size x w1:=((z11 _ x).alloc bb _).trans (Y' (B:=w.heap.size) aR (by simp;omega) (fun g' bc=>(z15 (d' ao) g' bc).1));replace ap:=m' ap;replace aq:=m' aq;clear aR hi F G H;go_simp);have bl:IntKind.i64.wrap ((j:Int)+1)=(j:Int)+1:=(by rw[z36];omega);go_wp2;refine⟨⟨j+1,by omega,by omega,by go_num,?_,(d' aP).trans (d' aq),(d' Y).2.2 (by trivial)⟩,?_⟩
    ·have e:j+1 - 2=(j - 2)+1:=(by omega);rw[e,(d' Y).1];exact d' ap
    ·simp[intOf];omega
  ·have e:j=m:=(by omega);subst e;have aS:=m' (rj' O);clear O;go_wp2;go_ret2;refine⟨_,by rw[d' aS];rfl,fun rs h=>?_,hb⟩;rw[d' aS]at h;cases h;exact M
def oU' (o h:Nat) (B:Nat) (L:List UInt8) (s:Nat) (w:World):Prop:=∃p,qo' B L p w/\B<=s/\w.heap[s]? =some (.cells #[D' p, .int .u32 o, .int .u64 0, .int .i64 h] 203 (0,0))
variable{q r:Nat}
theorem oV' (z:oU' w a q m r p) (hb:Below p.heap.size p u):oU' w a q m r u:=z.imp fun _ a=>⟨fU' a.1 hb,a.2.1,(hb.block _ (z14 a.2.2)).trans a.2.2⟩
variable{F:Mq.Hd}{aA:List Mq.Rc}
theorem gE' (z:World) (v:Value) (L:List UInt8) (m:Nat) (ap:Qn z v L) (aT:L.length=m * 64) (bz:2<=m) (bA:m<=150) (aU:Mq.openSt L=some (F,w,aA)):
  Calls prog 102 #[v] z fun r w'=>∃s dp lv Z rv,r= .returned (.tuple #[D' s, .agg #[.int .i64 F.a, .int .i64 F.b, .int .i64 F.d,rv], .int .i64 0])/\
   Vf w' s dp ((⟨F.o+1,0,w,⟨L,0,false⟩⟩:Mq.Stv).Qr F.a F.b F.d).2 lv Z/\(∀k,StU s dp lv Z k->z.heap.size<=k)/\w'.ownsRow z.heap.size 155 3 rv (m - 2) (df' aA)/\Below z.heap.size z w':=by
 obtain⟨ah,aF⟩:=Mq.Vg aU;obtain⟨aV,aW,aX,_⟩:=Mq.Vs ah;have aY:=Mq.Vo aW;rw[<-aX]at aY;rw[show L.length / 64=m by omega]at aF;have aZ:=m' (fun y (hb:Below z.heap.size z y)=>lH' y v L (ap.below hb) (by omega) (by omega));have aG:=m' (fun y (hb:Below z.heap.size z y)=>kc' y v L m F.o (ap.below hb) aT bz bA);rw[aF]at aG;have ba:=m' ah;have bB:=m' aV;obtain⟨bV,bC,bW,bX,bY⟩:=aY;have bb:128<=L.length/\L.length<=10000:=by omega
 have bc:=m' (fun y (hb:Below z.heap.size z y)=>qn' y v L (ap.below hb) bb.1 bb.2);clear ap aT aU ah aF aX aW bC aV;have w1:IntKind.u32.wrap ((F.o:Int)+1)=((F.o+1:Nat):Int):=by rw[zB'];omega
 unfold D';go_enter func102,ntmps102;go_upto_region 2 with (go_at_call 146;refine((d' aZ) _ ((z11 _ _).alloc (z13 _) _)).mono ?_;rintro r y ⟨h2,k2,rfl,bd,aq⟩;obtain⟨bD,au⟩:=bd _ _ (d' ba);rw[d' ba];subst bD;subst au;clear bd;unfold gD');have be:=aq.size;simp only[World.size_alloc]at be;have bf:Below z.heap.size z y:=((z11 _ _).alloc (z13 _) _).trans (aq.mono (by simp));have bg:=(aq.block z.heap.size (by simp)).trans (z19 z _);obtain⟨H,aH⟩:=exq (y.heap.size);rw[<-aH];refine G' (fun x=>x.heap[z.heap.size]? =some (.cells #[.int .i64 0, .int .i64 0, .int .i64 0, .slice none 0 0] 187 (0,0))/\x.heap[H]? =some (.cells #[.int .u32 h2.o, .int .u64 h2.c, .int .i64 h2.a, .int .i64 h2.b, .int .i64 h2.d] 217 (0,0))/\Below z.heap.size z x) ?_ ?_
 ·exact⟨(hao _ _ (by omega)).trans bg,by rw[aH];exact z19 _ _,bf.alloc (by omega) _⟩
 have bZ:z.heap.size < H:=by omega
 clear bg bf be aq aH aZ;rintro x ⟨h0,h5,bh⟩;have bi:x.cell? ⟨H,0,none⟩=some (.int .u32 h2.o):=y' (i:=0) h5;have bj:=m' h0;have bk:=m' h5;have aI:=m' bh;have bE:=z14 h5;clear h0 h5 bh;go_upto_region 7 with (go_at_call 147;refine((d' aG) _ (d' aI)).mono ?_;rintro r av ⟨rv,rfl,Q,ax⟩;replace Q:=Q _ rfl);have Q:=ak' Q (B':=z.heap.size) (by omega);have aJ:Below z.heap.size z av:=(d' aI).trans (ax.mono (by omega));have bl:=(ax.block _ (by omega)).trans (d' bj);have aK:=(ax.block _ (by omega)).trans (d' bk);obtain⟨aa,ab,rfl,_⟩:=(Qi.Qv (ak' Q (z54 _))).shape;have aL:=m' Q;have aM:=m' aJ;have bm:=m' bl;have aN:=m' aK;have bn:=aJ.size;have bF:=z14 aK;clear Q aJ bl aK ax aI bj bk aG bi bE;refine af'
  [Ev v,fun u G=>∃p,u= .pointer (some ⟨p,0,none⟩)/\qo' z.heap.size L p G,Ep H 0,Ep H 0,Ev (.int .u32 h2.o),Ev (.int .u32 (h2.o+1:Nat)),Ev (.agg #[.int .u32 (h2.o+1:Nat), .int .u64 0]),Ei k2,
   fun u G=>∃p,u= .agg #[.pointer (some ⟨p,0,none⟩), .int .u32 (h2.o+1:Nat), .int .u64 0, .int .i64 k2]/\qo' z.heap.size L p G,fun u G=>∃s,u= .pointer (some ⟨s,0,none⟩)/\oU' (h2.o+1) k2 z.heap.size L s G,fun u G=>∃s,u= .pointer (some ⟨s,0,none⟩)/\oU' (h2.o+1) k2 z.heap.size L s G]
  [[0],[1030],[5],[3032],[4033],[5034],[6035],[6],[2031,7036,8037],[9038],[10039]] [31,32,33,34,35,36,37,38,39,40,10] [9,1,20,10,9]
  [] ?_ ?_ (hst:=by repeat' (first|exact V' _|exact(fun _ _ _ F hb=>F.imp fun _ F=>⟨F.1,fU' F.2 hb⟩)|exact(fun _ _ _ F hb=>F.imp fun _ F=>⟨F.1,oV' F.2 hb⟩)|exact trivial|apply z12)) (hstF:=by exact trivial)
 ·refine⟨?_,?_,?_,?_,?_,?_,?_,?_,?_,?_,?_,trivial⟩;all_goals
   intro a G hb M;have z5:=hb.blk (d' aN) (cJ' (by intro q ai;cases ai));have O:Below z.heap.size z G:=(d' aM).trans ((hb.below (B:=av.heap.size) (z13 _) (fun j _ F=>by obtain⟨q,ai,_⟩:=F;cases ai)).mono bn);have bi:G.cell? ⟨H,0,none⟩=some (.int .u32 h2.o):=y' (i:=0) z5;have ac:=m' O;clear z5 hb O;simp[I']at M
  ·go_simp;exact⟨_,rfl,Far.refl _ _,rfl⟩
  ·have bo:=m' ((d' bc) G (d' ac));have ay:=(d' ac).size;unfold D' at bo;go_simp;refine(d' bo).mono ?_;rintro r az ⟨p,lv,rfl,k1,k2,k3⟩;exact⟨_,rfl,C' k2,p,rfl,lv,k1,fun k hk=>z26 ay (k3 k hk)⟩
  iterate 6
   ·go_simp;exact⟨_,rfl,Far.refl _ _,rfl⟩
  ·obtain⟨⟨p,J,hn⟩,M⟩:=M;have aj:=m' hn;clear hn;go_simp;exact⟨_,rfl,Far.refl _ _,p,rfl,d' aj⟩
  ·obtain⟨p,J,hn⟩:=M;have aj:=m' hn;have ay:=(d' ac).size;clear hn;go_simp;refine⟨_,rfl,C' ((z11 _ _).alloc (z13 _) _),_,rfl,p,fU' (d' aj) ((z11 _ _).alloc (z13 _) _),ay,z19 _ _⟩
  ·obtain⟨s,hs,hn⟩:=M;have aj:=m' hn;clear hn;go_simp;exact⟨_,rfl,Far.refl _ _,s,rfl,d' aj⟩
 ·intro f G hF V;obtain⟨s,bG,dp,⟨lv,ad,bH⟩,bI,Y⟩:=V.2.2.2.2.2.2.2.2.2.2.1;have O:Below av.heap.size av G:=hF.below (z13 _) (fun j _ F=>by obtain⟨q,ai,_⟩:=F;cases ai);have ST:Vf G s dp ⟨h2.o+1,0,k2,⟨L,0,false⟩⟩ lv (.slice none 0 0):=⟨Y,ad,by show h2.o+1 < _;omega,by simp,d' bB⟩;have aB:∀k,StU s dp lv (.slice none 0 0) k->z.heap.size<=k:=by
   rintro k (rfl|hk)
   ·exact bI
   ·exact bH k hk
  have z0:=(O.block _ (by omega)).trans (d' bm);have z5:=(O.block _ bF).trans (d' aN);have au:G.cell? ⟨H,2,none⟩=some (.int .i64 h2.a):=y' (i:=2) z5;have bp:G.cell? ⟨H,3,none⟩=some (.int .i64 h2.b):=y' (i:=3) z5;have bq:G.cell? ⟨H,4,none⟩=some (.int .i64 h2.d):=y' (i:=4) z5;have aO:=m' (dr' G s dp _ lv _ ST h2.a h2.b h2.d (by omega) (by omega) (by omega));have ak:=aC' (w':=G) (d' aL) (fun g I=>O.block g (z15 (d' aL) g I).2);have aP:=m' ak;have ac:=m' ((d' aM).trans (O.mono bn));have br:=m' z0;have bt:=m' z5;have aC:¬StU s dp lv (.slice none 0 0) z.heap.size:=by
   rintro(F|F)
   ·rw[<-F,z0]at Y;cases Y
   ·exact ey' ad z0 (by decide) (by decide) (by decide) F
  have bJ:¬StU s dp lv (.slice none 0 0) H:=by
   rintro(F|F)
   ·rw[<-F,z5]at Y;cases Y
   ·exact ey' ad z5 (by decide) (by decide) (by decide) F
  have bK:∀g,(Value.slice aa (m - 2) ab).ownBlock=some g->¬StU s dp lv (.slice none 0 0) g:=by
   rintro g I (F|F|F|F)
   ·exact(Qi.Qv (ak' ak (z54 _))).ne Y (by decide) (by rw[I,F])
   ·exact(Qi.Qv (ak' ak (z54 _))).ne ad.blk (by decide) (by rw[I,F])
   ·exact(Qi.Qv (ak' ak (z54 _))).ty (Qi.Qv ad.row) (by decide) I F
   ·cases F
  have ay:=O.size;clear V hF O z0 z5 ad Y ak aL aM bm aN bc ST;simp only[O',bG];go_simp;unfold D' at aO;go_upto_region 9 with (go_at_call 149;refine(d' aO).mono ?_;rintro r az ⟨rfl,Z,k1,k2,k3⟩;replace k1:=m' k1;replace k2:=m' k2;replace k3:=m' k3);have ao:=d' k3;have z0:=ao.blk (d' br) aC;have z5:=ao.blk (d' bt) bJ;have bu:=aC' (w':=az) (d' aP) (fun g I=>ao.rest g (z15 (d' aP) g I).2 (bK g I));have aQ:Below z.heap.size z az:=(d' ac).trans (ao.below (by omega) (fun k hk F=>by have:=aB k F;omega));have aR:=m' bu;have bL:=m' aQ;have aS:=m' z0;have bM:=m' z5;have ca:=aQ.size;have cb:=z14 z5;have cc:=z14 z0;clear ao z0 z5 bu aQ aP ac br bt au bp bq aO;refine af'
   [Ep s 0,Ep H 2,Ev (.agg #[.int .i64 h2.a, .int .i64 h2.b, .int .i64 h2.d]),Ev (.slice aa (m - 2) ab),Ev (.agg #[.int .i64 h2.a, .int .i64 h2.b, .int .i64 h2.d, .slice aa (m - 2) ab]),Ep s 0,
    fun _ q=>q.heap[z.heap.size]? =some (.cells #[.int .i64 h2.a, .int .i64 h2.b, .int .i64 h2.d, .slice aa (m - 2) ab] 187 (0,0)),Ei 0]
   [[9],[5],[2045],[8],[3046,4047],[1044],[3,5048],[]] [45,46,47,48,49,3,0,5] [2,1,1,1,39,5]
   [(6,fun k=>k=z.heap.size)] ?_ ?_ (hst:=by repeat' (first|exact V' _|exact ca' _ _|exact trivial|apply z12))
  ·refine⟨?_,?_,?_,?_,?_,?_,?_,?_,trivial⟩;all_goals
    intro a q hb M;have aD:=hb.blk (d' bM) (cJ' (by intro p J;simp at J;subst J;intro (e:H=z.heap.size);omega));have au:q.cell? ⟨H,2,none⟩=some (.int .i64 h2.a):=y' (i:=2) aD;have bp:q.cell? ⟨H,3,none⟩=some (.int .i64 h2.b):=y' (i:=3) aD;have bq:q.cell? ⟨H,4,none⟩=some (.int .i64 h2.d):=y' (i:=4) aD;clear aD;simp[I']at M
   iterate 6
    ·clear hb;go_simp;exact⟨_,rfl,Far.refl _ _,rfl⟩
   ·have aE:=hb.blk (d' aS) (by rintro⟨p,J,g1,g2,cd⟩;simp at J;subst J;exact g1 rfl);clear hb;rw[if_pos (by rfl)];refine iH' 187 (.tmp 3) (.tmp 48) rfl z.heap.size #[.int .i64 h2.a, .int .i64 h2.b, .int .i64 h2.d, .slice aa (m - 2) ab] (by simp[Act.eval,M]) (by simp[Act.eval,M]) 187 _ aE (by rw[mG'];rfl) (by simp) (by rw[z49];intro u hu;simp at hu;rcases hu with rfl|rfl|rfl|rfl <;> rfl) ?_;exact⟨_,rfl,an' (.head _) (bp' _ _ _),z92 _ _ _ _ _ _ aE⟩
   ·clear hb;go_simp;exact⟨_,rfl,Far.refl _ _,rfl⟩
  ·intro f q hF V;have bN:=V.2.2.2.2.2.1;have bw:=V.2.2.2.2.2.2.1;have bO:=V.2.2.2.2.2.2.2.1;obtain⟨aE,bP,bQ,bR⟩:=zp' bw;have hF:Far (fun k=>k=z.heap.size) az q:=hF.mono (fun k _ F=>by obtain⟨p,J,F⟩:=F;simp at J;subst J;exact F);have bS:=m' hF;clear V hF bw;simp only[O',bN,bO];go_simp;go_wp2;refine z50 (v:= .tuple #[.pointer (some ⟨s,0,none⟩), .agg #[.int .i64 h2.a, .int .i64 h2.b, .int .i64 h2.d, .slice aa (m - 2) ab], .int .i64 0]) (by simp[results,results102,go_sem,aE,bP,bQ,bR]) rfl ?_;have hF:=d' bS;have bT:=d' k2;have bU:∀k,StU s dp lv Z k->z.heap.size<=k:=by
    rintro k (F|F|F|F)
    ·exact aB k (.inl F)
    ·exact aB k (.inr (.inl F))
    ·exact aB k (.inr (.inr (.inl F)))
    ·rcases bT with k2|k2|⟨g,k2,k5⟩
     ·rw[k2]at F;cases F
     ·rw[k2]at F;cases F
     ·rw[k2]at F;cases F;omega
   have ah:¬StU s dp lv Z z.heap.size:=by
    rintro(F|F|F|F)
    ·exact aC (.inl F)
    ·exact aC (.inr (.inl F))
    ·exact aC (.inr (.inr (.inl F)))
    ·exact(d' k1).dk.un.ne (d' aS) (by decide) F
   exact⟨s,dp,lv,Z,_,rfl,(d' k1).far hF (fun k hk e=>ah (by rw[<-e];exact hk)),bU,aC' (d' aR) (fun g I=>hF.rest g (z15 (d' aR) g I).2 (fun e=>(Qi.Qv (ak' (d' aR) (z54 _))).ne (d' aS) (by decide) (by rw[I,e]))),(d' bL).trans (hF.below (by omega) (fun k hk e=>by omega))⟩
section
variable {w x y:World} {p:Nat} {g g2:Nat->Nat} {tk tk2:Nat} {wel wel2 fen fen2:Bool} {free free2:List Nat} {sh sh2:Nat->List (Nat×Value)} {arr:Array Value} {s:Nat} {nv mv:Nat->Value} {fv rv:Value}
theorem Ar' (z:iR' w p g tk wel fen free sh arr s nv mv fv rv) {i:Nat} (hi:i < 9) {Q:List (Nat×Value)} (h:cq' w x p (4+i * 2) 151 arr (nv i) (mv i) Q):
  ∃V nv' mv',iR' x p g tk wel fen free (fun t=>if t=i then Q else sh t) V s nv' mv' fv rv/\(∀k,KaU p nv' mv' fv k->KaU p nv mv fv k\/w.heap.size<=k)/\Far (fun k=>k=p\/ShU (nv i) (mv i) k) w x:=by
 obtain⟨⟨nv',mv',S,hn,Y⟩,hF⟩:=h;have Z:=z.sz;have F:∀j,j≠4+i * 2->j≠4+i * 2+1->((arr.setIfInBounds (4+i * 2) nv').setIfInBounds (4+i * 2+1) mv')[j]? =arr[j]? :=fun j h1 h2=>by rw[z16 (by omega),z16 (by omega)]
 have J:∀k,ShU nv' mv' k->ShU (nv i) (mv i) k\/w.heap.size<=k:=by
  rintro k (hk|hk)
  ·rcases hn with h|h|⟨g,h,H⟩
   ·rw[h]at hk;cases hk
   ·exact .inl (.inl (by rw[<-h];exact hk))
   ·rw[h]at hk;cases hk;exact .inr H
  ·rcases Y with h|⟨g,h,H⟩
   ·exact .inl (.inr (by rw[<-h];exact hk))
   ·rw[h]at hk;cases hk;exact .inr H
 have aa:fv.ownBlock≠some p:=z.fr.ne z.blk (by decide);refine⟨(arr.setIfInBounds (4+i * 2) nv').setIfInBounds (4+i * 2+1) mv',fun t=>if t=i then nv' else nv t,fun t=>if t=i then mv' else mv t,
  ⟨S.blk,by simpa using Z,?_,?_,?_,?_,?_,?_,?_,?_,?_,?_,?_,?_,?_⟩,?_,hF⟩
 ·rw[F _ (by omega) (by omega)];exact z.a0
 ·intro j hj;rw[F _ (by omega) (by omega)];exact z.ag j hj
 ·intro j hj;show _=some (if j=i then nv' else nv j);by_cases e:j=i
  ·subst e;rw[if_pos rfl];exact S.c0
  ·rw[if_neg e,F _ (by omega) (by omega)];exact z.an j hj
 ·intro j hj;show _=some (if j=i then mv' else mv j);by_cases e:j=i
  ·subst e;rw[if_pos rfl];exact S.c1
  ·rw[if_neg e,F _ (by omega) (by omega)];exact z.am j hj
 ·rw[F _ (by omega) (by omega)];exact z.af
 ·rw[F _ (by omega) (by omega)];exact z.at'
 ·rw[F _ (by omega) (by omega)];exact z.aw
 ·rw[F _ (by omega) (by omega)];exact z.ae
 ·rw[F _ (by omega) (by omega)];exact z.ar
 ·exact z.fr.far hF (fun g H h=>h.elim (fun h=>aa (by rw[H,h])) (fun h=>z.apf i hi g h H))
 ·intro j hj;show Jb x (if j=i then nv' else nv j) (if j=i then mv' else mv j) (if j=i then Q else sh j);by_cases e:j=i
  ·rw[if_pos e,if_pos e,if_pos e];exact S.sh
  ·rw[if_neg e,if_neg e,if_neg e];refine(z.shs j hj).far hF (fun k hk h=>?_);rcases h with h|h
   ·exact(z.shs j hj).ne z.blk (by decide) (by rw[<-h];exact hk)
   ·exact z.aps j i hj hi e k hk h
 ·intro j hj b hb;replace hb:ShU (if j=i then nv' else nv j) (if j=i then mv' else mv j) b:=hb;by_cases e:j=i
  ·rw[if_pos e,if_pos e]at hb;rcases J b hb with h|h
   ·exact z.apf i hi b h
   ·intro ab;have:=z.fr.lt b ab;omega
  ·rw[if_neg e,if_neg e]at hb;exact z.apf j hj b hb
 ·intro j G hj M I k hk;replace hk:ShU (if j=i then nv' else nv j) (if j=i then mv' else mv j) k:=hk;show ¬ShU (if G=i then nv' else nv G) (if G=i then mv' else mv G) k;by_cases h1:j=i
  ·subst h1;rw[if_pos rfl,if_pos rfl]at hk;rw[if_neg (fun e=>I e.symm),if_neg (fun e=>I e.symm)];intro O;rcases J k hk with h|h
   ·exact z.aps j G hj M I k h O
   ·have:=(z.shs G M).lt k O;omega
  ·rw[if_neg h1,if_neg h1]at hk;by_cases h2:G=i
   ·subst h2;rw[if_pos rfl,if_pos rfl];intro O;rcases J k O with h|h
    ·exact z.aps j G hj M I k hk h
    ·have:=(z.shs j hj).lt k hk;omega
   ·rw[if_neg h2,if_neg h2];exact z.aps j G hj M I k hk
 ·rintro k (rfl|hk|⟨j,hj,hk⟩)
  ·exact .inl (.inl rfl)
  ·exact .inl (.inr (.inl hk))
  ·have hk:ShU (if j=i then nv' else nv j) (if j=i then mv' else mv j) k:=hk;by_cases e:j=i
   ·rw[if_pos e,if_pos e]at hk;exact(J k hk).elim (fun h=> .inl (.inr (.inr ⟨i,hi,h⟩))) .inr
   ·rw[if_neg e,if_neg e]at hk;exact .inl (.inr (.inr ⟨j,hj,hk⟩))
theorem yt' (z:iR' w p g tk wel fen free sh arr s nv mv fv rv) (v:Value) (hF:Far (fun k=>fv.ownBlock=some k) w x) (H:Qi x 3 1 v free2.length (J' free2)) (hl:Loc w fv v):
  ∃O,iR' (x.setCell ⟨p,22,none⟩ v) p g tk wel fen free2 sh O s nv mv v rv/\(∀k,KaU p nv mv v k->KaU p nv mv fv k\/w.heap.size<=k)/\Far (fun k=>k=p\/fv.ownBlock=some k) w (x.setCell ⟨p,22,none⟩ v):=by
 have hs:=Q' x p 22 v;have F:∀j,j≠22->(arr.setIfInBounds 22 v)[j]? =arr[j]? :=fun j hj=>z16 (fun e=>hj e.symm);have Q:22 < arr.size:=by rw[z.sz];omega
 have V:fv.ownBlock≠some p:=z.fr.ne z.blk (by decide);have I:=hF.blk z.blk V;have Y:v.ownBlock≠some p:=H.ne I (by decide);have J:Far (fun k=>k=p\/fv.ownBlock=some k) w (x.setCell ⟨p,22,none⟩ v):=(hF.mono (fun _ _ h=> .inr h)).trans hs (fun _ _ h=> .inl h);refine⟨arr.setIfInBounds 22 v,⟨aa' I,by simpa using z.sz,?_,?_,?_,?_,?_,?_,?_,?_,?_,?_,?_,?_,z.aps⟩,?_,J⟩
 ·rw[F _ (by omega)];exact z.a0
 ·intro j hj;rw[F _ (by omega)];exact z.ag j hj
 ·intro j hj;rw[F _ (by omega)];exact z.an j hj
 ·intro j hj;rw[F _ (by omega)];exact z.am j hj
 ·simp[Q]
 ·rw[F _ (by omega)];exact z.at'
 ·rw[F _ (by omega)];exact z.aw
 ·rw[F _ (by omega)];exact z.ae
 ·rw[F _ (by omega)];exact z.ar
 ·exact H.far hs (fun g Z e=>Y (by rw[Z,e]))
 ·intro j hj;refine(z.shs j hj).far J (fun k hk e=>?_);rcases e with rfl|e
  ·exact(z.shs j hj).ne z.blk (by decide) hk
  ·exact z.apf j hj k hk e
 ·intro j hj b hb G;rcases hl with h|h|⟨g',h,M⟩
  ·rw[h]at G;cases G
  ·rw[h]at G;exact z.apf j hj b hb G
  ·rw[h]at G;cases G;have:=(z.shs j hj).lt b hb;omega
 ·rintro k (rfl|hk|hk)
  ·exact .inl (.inl rfl)
  ·rcases hl with h|h|⟨g',h,M⟩
   ·rw[h]at hk;cases hk
   ·exact .inl (.inr (.inl (by rw[<-h];exact hk)))
   ·rw[h]at hk;cases hk;exact .inr M
  ·exact .inl (.inr (.inr hk))
end
def toV (e:Mq.Pe):Nat×Value:=(e.1,cN' e.2.1 e.2.2)
theorem nE':∀ (b:Nat) (k:List (z10×Nat)) (p:List Nat),aD' b k p=(Mq.keptP b k p).map toV
 | _,[],_=>by simp[aD',Mq.keptP]
 | _,_:: _,[]=>by simp[aD',Mq.keptP]
 |b,x::r,q::z=>by rw[aQ',Mq.keptP,z48,nE' (b+1) r z];rfl
theorem rk' (e:Mq.Pe):∀l:List Mq.Pe,br' (l.map toV) e.1 (cN' e.2.1 e.2.2)=(Mq.insP l e).map toV
 |[]=>rfl
 |y::r=>by
  rw[z48,br',Mq.insP];have h1:(toV y).1=y.1:=rfl;rw[h1];rcases Nat.lt_trichotomy e.1 y.1 with c|c|c
  ·have c1:¬e.1=y.1:=(by omega);simp[c,c1,toV]
  ·have c2:¬e.1 < y.1:=(by omega);simp[c,toV]
  ·have c1:¬e.1=y.1:=(by omega);have c2:¬e.1 < y.1:=(by omega);simp[c1,c2,rk' e r]
theorem xe' (l:List Mq.Pe):(l.map toV).map (·.1)=l.map (·.1):=by
 rw[rX'];rfl
theorem xf' (l:List Mq.Pe):ou' (l.map toV):=fun x z=>by
 obtain⟨e,_,rfl⟩:=z63.1 z;exact⟨e.2.1,e.2.2,rfl⟩
def eN' (l:Mq.Ld) (k:Nat):List (Nat×Value):=if k % 3=0 then(l.sh (k / 3)).map toV else []
theorem ea' (l:Mq.Ld) (i:Nat):eN' l (i * 3)=(l.sh i).map toV:=by
 unfold eN';rw[if_pos (by omega),show i * 3 / 3=i by omega]
theorem xg' (l:Mq.Ld) (i:Nat) (z:List Mq.Pe):(fun t=>if t=i * 3 then z.map toV else eN' l t)=eN' {l with sh:=fun j=>if j=i then z else l.sh j}:=by
 funext t;unfold eN';by_cases h:t=i * 3
 ·subst h;rw[if_pos rfl,if_pos (by omega),show i * 3 / 3=i by omega];simp
 ·rw[if_neg h];by_cases h2:t % 3=0
  ·rw[if_pos h2,if_pos h2];have:¬t / 3=i:=(by omega);simp[this]
  ·rw[if_neg h2,if_neg h2]
namespace Mq
theorem insP_length (e:Pe):∀l:List Pe,(insP l e).length<=l.length+1
 |[]=>by simp[insP]
 |y::r=>by
  have:=insP_length e r;unfold insP;split
  ·simp
  ·split
   ·simp
   ·simp;omega
theorem ldAll_app (g:Nat->Nat):∀ (rs z:List Rc) (x:Nat) (l:Ld),ldAll g (rs++z) x l=match ldAll g rs x l with
  |none=>none
  |some F=>ldAll g z (x+rs.length) F
 |[],z,x,l=>by simp[ldAll]
 |r::rs,z,x,l=>by
  rw[yY',ldAll,ldAll,z56,show x+(rs.length+1)=x+1+rs.length by omega];cases Xq g x r l with
  |none=>rfl
  |some F=>exact ldAll_app g rs z (x+1) F
variable{Q:Nat -> Nat}{aP:List Rc}{U:Rc}{aD:Ld}
theorem ldAll_step (z:aP[w]? =some U) (h:ldAll Q (aP.take w) 0 ld0=some aD):ldAll Q (aP.take (w+1)) 0 ld0=Xq Q w U aD:=by
 obtain⟨hj,e⟩:=z28.1 z;rw[z84 hj,e,ldAll_app,h];simp only[List.length_take];rw[show 0+min w aP.length=w by omega];unfold ldAll;cases Xq Q w U aD with
 |none=>rfl
 |some F=>rfl
theorem ldAll_bad (h:ldAll Q (aP.take w) 0 ld0=none):ldAll Q aP 0 ld0=none:=by
 have:=ldAll_app Q (aP.take w) (aP.drop w) 0 ld0;rw[wH',h]at this;exact this
variable{cX:Ld}
theorem ldStep_len (h:Xq Q w U aD=some cX):cX.free.length<=aD.free.length+1/\∀i,(cX.sh i).length<=(aD.sh i).length+1:=by
 unfold Xq at h;split at h
 ·cases h;exact⟨by simp,fun i=>Nat.le_succ _⟩
 ·split at h
  ·cases h
  ·cases h;refine⟨by simp,fun i=>?_⟩;simp only
   split
   ·rename_i e;have:=insP_length (U.q,U.b,w) (aD.sh U.s);rw[e];exact this
   ·omega
theorem ldAll_len:∀ (rs:List Rc) (x:Nat) (l z:Ld),ldAll Q rs x l=some z->z.free.length<=l.free.length+rs.length/\∀i,(z.sh i).length<=(l.sh i).length+rs.length
 |[],_,l,z,h=>by cases h;exact⟨by simp,fun i=>by simp⟩
 |r::rs,x,l,z,h=>by
  unfold ldAll at h;cases hs:Xq Q x r l with
  |none=>rw[hs]at h;cases h
  |some F=>rw[hs]at h;obtain⟨a1,a2⟩:=ldStep_len hs;obtain⟨G,b2⟩:=ldAll_len rs (x+1) F z h;refine⟨by simp;omega,fun i=>?_⟩;have:=a2 i;have:=b2 i;simp;omega
variable{bD dS:Pe}
theorem insP_mem:∀ {l:List Pe},dS∈insP l bD->dS=bD\/dS∈l
 |[],h=>by simp[insP]at h;exact .inl h
 |z::r,h=>by
  unfold insP at h;split at h
  ·cases h with
   |head=>exact .inl rfl
   |tail _ h=>exact .inr (.tail _ h)
  ·split at h
   ·cases h with
    |head=>exact .inl rfl
    |tail _ h=>exact .inr h
   ·cases h with
    |head=>exact .inr (.head _)
    |tail _ h=>exact(insP_mem h).imp id (fun h=> .tail _ h)
theorem ldAll_inv (R:Nat->Pe->Prop):∀ (rs:List Rc) (x:Nat) (l F:Ld),ldAll Q rs x l=some F->(∀i,∀e∈l.sh i,R i e)->(∀j r,rs[j]? =some r->¬r.q<=Q r.s->R r.s (r.q,r.b,x+j))->∀i,∀e∈F.sh i,R i e
 |[],_,l,F,h,h1,_=>by cases h;exact h1
 |r::rs,x,l,F,h,h1,h2=>by
  unfold ldAll at h;cases hs:Xq Q x r l with
  |none=>rw[hs]at h;cases h
  |some H=>
   rw[hs]at h;refine ldAll_inv R rs (x+1) H F h ?_ (fun j I hj G=>by have:=h2 (j+1) I (by simpa using hj) G;rw[show x+1+j=x+(j+1) by omega];exact this);unfold Xq at hs;split at hs
   ·cases hs;exact h1
   ·rename_i G;split at hs
    ·cases hs
    ·cases hs;intro i e z;simp only at z;split at z
     ·rename_i hi;subst hi;rcases insP_mem z with rfl|z
      ·exact h2 0 r rfl G
      ·exact h1 _ e z
     ·exact h1 i e z
def Vy (g:Nat->Nat) (rs:List Rc):Option Ld:=match ldAll g rs 0 ld0 with
 |none=>none
 |some l=>if okP (l.sh 0) (g 0)=true/\okP (l.sh 1) (g 1)=true/\okP (l.sh 2) (g 2)=true then some l else none
end Mq
def Wa (w x:World) (p s:Nat) (g:Nat->Nat) (l:Mq.Ld):Prop:=
 ∃arr nv mv fv,iR' x p g 0 false false l.free (eN' l) arr s nv mv fv (.slice none 0 0)/\Far (fun k=>k=p) w x/\∀k,KaU p nv mv fv k->k=p\/w.heap.size<=k
theorem Wa.below {w x y:World} {p s:Nat} {g:Nat->Nat} {l:Mq.Ld} (h:Wa w x p s g l) (hb:Below x.heap.size x y):Wa w y p s g l:=by
 obtain⟨arr,nv,mv,fv,h1,h2,h3⟩:=h;exact⟨arr,nv,mv,fv,h1.far (C' (E:=fun _=>False) hb) (fun _ _ h=>h),h2.trans (C' (E:=fun _=>False) hb) (fun _ _ h=>h.elim),h3⟩
variable{Q:Nat -> Nat}{aL:Mq.Ld}{l:Array Value}{b z:Nat -> Value}{c f:Value}
theorem th' (K:iR' p w Q 0 false false aL.free (eN' aL) l a b z c f) (hi:q < 3):
  Calls prog 88 #[D' w, .int .i64 q] p fun r w'=>r= .returned (.int .i64 (Mq.Vz (aL.sh q) (Q q):Nat))/\∃n,w'=p.drewN n:=by
 have F:=nq' K.blk (K.an (q * 3) (by omega)) (K.shs (q * 3) (by omega));rw[ea',show 4+q * 3 * 2=4+q * 6 by omega]at F;obtain⟨m,H,G,F⟩:∃ (m:Nat) (H:Bool),max m (Q q)=Mq.Vz (aL.sh q) (Q q)/\Calls prog 129 #[.pointer (some ⟨w,4+q * 6,none⟩)] p fun e w'=>e= .returned (.tuple #[.int .i64 m, .bool H])/\∃n,w'=p.drewN n:=by
  unfold Mq.Vz;rw[List.getLast?_map]at F;cases I:(aL.sh q).getLast? with
  |none=>rw[I]at F;exact⟨0,false,rfl,F⟩
  |some x=>rw[I]at F;exact⟨x.1,true,rfl,F⟩
 have J:p.cell? ⟨w,1+q,none⟩=some (.int .i64 (Q q)):=by rw[y' K.blk,K.ag q hi]
 obtain⟨n,hn⟩:=exq (Mq.Vz (aL.sh q) (Q q));rw[<-hn]at G ⊢;obtain⟨M,hb⟩:=exq (Q q);rw[<-hb]at G J;have O:max (m:Int) (M:Int)=(n:Int):=by omega
 have V:=m' F;have Z:(0:Int)<=(q:Int):=by omega
 have aa:(q:Int) < 3:=by omega
 clear K F hn hb G;unfold D';go_enter func88,ntmps88;go_wp2_with (go_at_call 129;refine(d' V).mono ?_;rintro r y ⟨rfl,Y,rfl⟩);go_ret;exact⟨by first|rfl|simp[O],Y,rfl⟩
theorem xh' (hb:p.heap[w]? =some (.cells l 151 (0,0))) (F:l=(((qM' a (.slice none 0 0) (.slice none 0 0)).setIfInBounds 1 (.int .i64 (Q 0))).setIfInBounds 2 (.int .i64 (Q 1))).setIfInBounds 3 (.int .i64 (Q 2))):Wa p p w a Q Mq.ld0:=by
 have G:l.size=27:=by rw[F];rfl
 have H:∀k,eN' Mq.ld0 k=[]:=fun k=>by unfold eN' Mq.ld0;split <;> rfl
 have z:∀j,j≠1->j≠2->j≠3->l[j]? =(qM' a (.slice none 0 0) (.slice none 0 0))[j]? :=fun j h1 h2 h3=>by rw[F,z16 (fun e=>h3 e.symm),z16 (fun e=>h2 e.symm),z16 (fun e=>h1 e.symm)]
 refine⟨l,fun _=> .slice none 0 0,fun _=> .map none, .slice none 0 0,⟨hb,G,?_,fun i hi=>?_,fun k hk=>?_,fun k hk=>?_,?_,?_,?_,?_,?_,bb' _ _ _,fun k hk=>by rw[H];exact fQ' _,fun k hk j hj=>?_,fun j k _ _ _ b hb=>?_⟩,Far.refl _ _,?_⟩
 ·rw[z _ (by omega) (by omega) (by omega)];rfl
 ·obtain rfl|rfl|rfl:i=0\/i=1\/i=2:=by omega
  all_goals
   rw[F];rfl
 ·rw[z _ (by omega) (by omega) (by omega)];exact((nA' a _ _).2 k hk).1
 ·rw[z _ (by omega) (by omega) (by omega)];exact((nA' a _ _).2 k hk).2
 ·rw[z _ (by omega) (by omega) (by omega)];rfl
 ·rw[z _ (by omega) (by omega) (by omega)];rfl
 ·rw[z _ (by omega) (by omega) (by omega)];rfl
 ·rw[z _ (by omega) (by omega) (by omega)];rfl
 ·rw[z _ (by omega) (by omega) (by omega)];rfl
 ·rcases hj with h|h <;> cases h
 ·rcases hb with h|h <;> cases h
 ·rintro k (h|h|⟨i,_,h⟩)
  ·exact .inl h
  ·cases h
  ·rcases h with h|h <;> cases h
variable{C:Nat}
theorem ti' (aT:Wa p p w a Q Mq.ld0) (aU:p.ownsRow 0 155 3 (.slice (some ⟨q,0,none⟩) C r) C (df' aA)) (bA:aA.length=C) (cL:C<=24)
  (bB:∀z∈aA,z=Mq.rc0\/z.fits) (bC:∀i,i < 3->Q i<=2147483647):
  Calls prog 103 #[D' w, .slice (some ⟨q,0,none⟩) C r] p fun z w'=>z= .returned (.bool (Mq.Vy Q aA).isSome)/\Far (fun k=>k=w) p w'/\∀l,Mq.Vy Q aA=some l->Wa p w' w a Q l:=by
 have Z:∃arr,p.heap[w]? =some (.cells arr 151 (0,0)):=by obtain⟨arr,_,_,_,K,_⟩:=aT;exact⟨arr,K.blk⟩
 obtain⟨cM,Z⟩:=Z;have bD:0 < C->q≠w:=fun _ e=>by have:=(Qi.Qv aU).ne Z (by decide);exact this (by rw[e];rfl)
 have bE:∀j z,aA[j]? =some z->p.cell? ⟨q,j * 3,none⟩=some (.int .i64 z.s)/\p.cell? ⟨q,j * 3+1,none⟩=some (.int .i64 z.q)/\p.cell? ⟨q,j * 3+2,none⟩=some (.string z.b):=by
  intro j z hj;have bF:=(z28.1 hj).1;obtain⟨cN,cO,e,_,_,au⟩:=(Qi.Qv aU).shape;obtain⟨g',cP,aH,au⟩:=au (by omega);rw[aH]at e;injection e with e;injection e with e;injection e with e cg;subst e cg;have aV:=dV' aA;have:=iZ' aA j z hj;refine⟨?_,?_,?_⟩
  ·have h:=au (j * 3) (by omega);rw[z44]at h;rw[h];exact this.1
  ·have h:=au (j * 3+1) (by omega);rw[z44]at h;rw[h];exact this.2.1
  ·have h:=au (j * 3+2) (by omega);rw[z44]at h;rw[h];exact this.2.2
 have ch:=m' bE;have ci:=m' bD;have cQ:=z14 Z;have bG:=m' aT;have bH:=m' bB;have aW:=m' bA;have bI:=m' bC;clear aU bE bD aT bB bA bC Z;unfold D';go_enter func103,ntmps103;go_wp2;go_loopw[5,6,7,12] (fun _ _ _ i wr=>∃j:Nat,j<=C/\i= .int .i64 j/\∃l,Mq.ldAll Q (aA.take j) 0 Mq.ld0=some l/\Wa p wr w a Q l) (fun _ _ _ i _=>C - (intOf i).toNat)
 case atStart=>exact⟨0,by omega,rfl,_,rfl,d' bG⟩
 case round=>
  obtain⟨j,hj,rfl,l,av,H⟩:=hrel;clear bG;by_cases cj:j < C
  ·obtain⟨z,ak⟩:∃z,aA[j]? =some z:=⟨_,z18 (by have:=d' aW;omega)⟩;obtain⟨aX,bJ,aH⟩:=(d' ch) j z ak;have hst:=Mq.ldAll_step ak av;have aY:=Mq.ldAll_len _ _ _ _ av;have aZ:=(d' bH) z (z72 ak);have ck:z.s < 3:=by
    rcases aZ with h|h
    ·rw[h];show 0 < 3;omega
    ·exact h.1
   have cl:q < p.heap.size:=z66 _ _ aX;have aI:wr.heap[q]? =p.heap[q]? :=(by obtain⟨_,_,_,_,_,hF,_⟩:=H;exact hF.rest q cl ((d' ci) (by omega)));have cm:=(z39 (w:=p) aI:wr.cell? ⟨q,j * 3,none⟩= _).trans aX;have cn:=(z39 (w:=p) aI:wr.cell? ⟨q,j * 3+1,none⟩= _).trans bJ;have ba:=(z39 (w:=p) aI:wr.cell? ⟨q,j * 3+2,none⟩= _).trans aH;have cR:l.free.length<=24:=(by have:=aY.1;simp[Mq.ld0]at this;omega);have cS:(l.sh z.s).length<=24:=(by have:=aY.2 z.s;simp[Mq.ld0]at this;omega);have G:=m' H;have ao:=m' hst;have bK:=m' aZ;clear aI aX bJ aH H av hst ak aY aZ;obtain⟨aJ,bb⟩:=exq (wr.heap.size);have cp:w < wr.heap.size:=(by obtain⟨_,_,_,_,K,_⟩:=d' G;exact z14 K.blk);have cT:aJ≠w:=(by omega);go_upto_region 4 with fail;rw[<-bb];refine G' (fun x=>x.heap[aJ]? =some (.cells #[.int .i64 z.s, .int .i64 z.q, .string z.b] 155 (0,0))/\Wa p x w a Q l) ?_ ?_
   ·rw[bb];exact⟨z19 _ _,(d' G).below ((z11 _ _).alloc (z13 _) _)⟩
   clear cm cn ba bb G cp;rintro x ⟨I,aK⟩;obtain⟨r0,aa,ax⟩:=cC' I;simp at r0 aa ax;have ad:=m' I;have G:=m' aK;obtain⟨arr,nv,mv,fv,K,F,N⟩:=aK;have bc:x.cell? ⟨w,1+z.s,none⟩=some (.int .i64 (Q z.s)):=by rw[y' K.blk,K.ag z.s ck]
   have s0:(0:Int)<=(z.s:Int):=(by omega);have s3:(z.s:Int) < 3:=(by omega);obtain⟨bd,be⟩:=exq (Q z.s);rw[<-be]at bc;have bL:=m' be;clear K F N I be;by_cases ab:z.q<=bd
   ·have bf:(z.q:Int)<=(bd:Int):=(by omega);have bg:Hid (Mq.ldAll Q (aA.take (j+1)) 0 Mq.ld0=some {l with free:=l.free++[j]}):=(by show _= _;rw[d' ao];unfold Mq.Xq;rw[if_pos (by rw[<-d' bL];exact ab)]);clear ao ab;go_quiet (fail);go_upto_region 5 with fail;refine G' (fun y=>Wa p y w a Q l) ((d' G).below (z41 (z11 _ _) _)) ?_;clear r0 aa ax ad G bc bf;intro y H;obtain⟨arr,nv,mv,fv,K,F,N⟩:=H;obtain⟨J,bh⟩:=exq (l.free.length);obtain⟨ay,az,ah,_⟩:=K.fr.shape;have aB:=K.fr;rw[<-bh]at ah aB;have cU:J<=24:=(by omega);have d22:y.cell? ⟨w,22,none⟩=some (.slice ay J az):=(by rw[y' K.blk,K.af,ah]);rw[ah]at aB;have cq:=fun aC=>m' (aB.keep (w':=y.alloc aC) (fun q cr=>hao _ _ (aB.lt q cr)));have bM:=K.fr.ne K.blk (by decide);have cs:∀aC v' w1,Qi w1 3 1 v' (J+1) (J' l.free++[.int .i64 j])->App (y.alloc aC) w1 (.slice ay J az) v'->∃aL aM,v'= .slice aL (J+1) aM/\w1.frozen? ⟨w,22,none⟩=false/\w1.cell? ⟨w,22,none⟩=some (.slice ay J az)/\
      Hid (Wa p (w1.setCell ⟨w,22,none⟩ v') w a Q {l with free:=l.free++[j]}):=by
     intro aC v' w1 h1 h2;obtain⟨aL,aM,cu,_⟩:=h1.shape;have bi:Far (fun k=>(Value.slice ay J az).ownBlock=some k) y w1:=(C' (E:=fun k=>(Value.slice ay J az).ownBlock=some k) ((z11 _ _).alloc (z13 _) aC)).trans (ba' h2.grown) (fun _ _ h=>h);rw[<-ah]at bi;have Z:=bi.blk K.blk bM;have cv:Loc y fv v':=by rw[ah];exact dy' (w:=y) (by simp) h2
     have cw:(l.free++[j]).length=J+1:=(by rw[z35,<-bh];rfl);obtain⟨bj,K',bk,bl⟩:=yt' (free2:=l.free++[j]) K v' bi (by rw[cw,show J' (l.free++[j])=J' l.free++[.int .i64 j] by simp[J']];exact h1) cv;refine⟨aL,aM,cu,H' (i:=22) Z,?_,m' ⟨bj,nv,mv,v',K',?_,fun k hk=>?_⟩⟩
     ·rw[y' Z,K.af,ah]
     ·refine F.trans bl (fun k hk h=>?_);rcases h with h|h
      ·exact h
      ·rcases N k (.inr (.inl h))with h|h
       ·exact h
       ·omega
     ·rcases bk k hk with h|h
      ·exact N k h
      ·exact .inr (z26 F.size h)
    clear K F N aB ah bh bM;go_upto_region 10 with (at_builtin;refine cx' rfl (.tmp 31) (.tmp 33) 26 rfl 3 _ 1 8 underlying26 wC' rfl _ J (J' l.free) (d' (cq _)) rfl ⟨y.heap.size,0,none⟩ 1 1 [.int .i64 j] rfl rfl aq' (by intro u hu;simp at hu;subst hu;rfl) (by omega) (by omega) (by omega) ?_;intro v' w1 h1 h2;obtain⟨aL,aM,rfl,cV,cW,cx⟩:=cs _ _ _ h1 h2;clear h1 h2;go_simp);go_wp2;exact⟨⟨j+1,by omega,by go_num,_,d' bg,d' cx⟩,by simp[intOf];omega⟩
   ·have bf:¬ (z.q:Int)<=(bd:Int):=(by omega);have bN:z.fits:=by
     rcases d' bK with h|h
     ·exfalso;rw[h]at ab;exact ab (z54 _)
     ·exact h
    have cX:=m' bN;have bO:Hid (¬z.q<=Q z.s):=(by rw[<-d' bL];exact m' ab);clear bN ab bK;go_quiet (fail);go_upto_region 6 with fail;go_quiet (fail);go_upto_region 7 with fail;refine G' (fun y=>y.heap[aJ]? =some (.cells #[.int .i64 z.s, .int .i64 z.q, .string z.b] 155 (0,0))/\Wa p y w a Q l) ⟨d' ad,(d' G).below (z41 (z41 (z11 _ _) _) _)⟩ ?_;clear r0 aa ax ad G bc bf;rintro y ⟨I,H⟩;have aa:=y' (i:=1) I;simp at aa;have ad:=m' I;have G:=m' H;obtain⟨arr,nv,mv,fv,K,F,N⟩:=H;have aN:=wv' K.blk (K.am (z.s * 3) (by omega)) (K.shs (z.s * 3) (by omega)) (by rw[ea'];exact xf' _) (z.q:Int);rw[ea',fN',xe',show 4+z.s * 3 * 2=4+z.s * 6 by omega]at aN;obtain⟨hb,bm⟩:=exq (((l.sh z.s).map (·.1)).contains z.q);rw[<-bm]at aN;have bn:=m' aN;have bP:=m' bm;clear K F N I aN bm;cases hb with
    |true=>have ac:Hid (Mq.Vy Q aA=none):=(by have h:=d' ao;unfold Mq.Xq at h;rw[if_neg (d' bO),<-d' bP,if_pos rfl]at h;show _= _;unfold Mq.Vy;rw[Mq.ldAll_bad h]);have cy:Hid (Far (fun k=>k=w) p y):=(by obtain⟨_,_,_,_,_,F,_⟩:=d' G;exact F);clear ao G;go_wp2_with (go_at_call 150;refine(d' bn).mono ?_;rintro e ba ⟨rfl,ai⟩;replace ai:=m' ai);go_ret;refine⟨aR' (by rw[d' ac];rfl),(d' cy).trans (C' (E:=fun _=>False) (d' ai)) (fun _ _ h=>h.elim),fun bo h=>?_⟩;rw[d' ac]at h;cases h
    |false=>
     have bg:Hid (Mq.ldAll Q (aA.take (j+1)) 0 Mq.ld0=some {l with sh:=fun i=>if i=z.s then Mq.insP (l.sh z.s) (z.q,z.b,j)else l.sh i}):=(by show _= _;rw[d' ao];unfold Mq.Xq;rw[if_neg (d' bO),<-d' bP,if_neg (by simp)]);clear ao;go_upto_region 9 with (go_at_call 150;refine(d' bn).mono ?_;rintro e ba ⟨rfl,ai⟩);refine G' (fun y=>y.heap[aJ]? =some (.cells #[.int .i64 z.s, .int .i64 z.q, .string z.b] 155 (0,0))/\Wa p y w a Q l) ⟨(ai.block _ (z14 (d' ad))).trans (d' ad),(d' G).below ai⟩ ?_;clear ai bn ad G aa;rintro bQ ⟨I,H⟩;have aa:=y' (i:=1) I;have ax:=y' (i:=2) I;simp at aa ax;have G:=m' H;obtain⟨arr,nv,mv,fv,K,F,N⟩:=H;have bR:eR' bQ w (4+z.s * 3 * 2) 151 arr (nv (z.s * 3)) (mv (z.s * 3)) ((l.sh z.s).map toV):=⟨K.blk,K.an _ (by omega),K.am _ (by omega),by have:=K.shs (z.s * 3) (by omega);rw[ea']at this;exact this,by decide⟩;have aD:=ql' bR (by simp;omega) z.q z.b j;have bp:=rk' (z.q,z.b,j) (l.sh z.s);simp only at bp;rw[bp]at aD;unfold cN' at aD;rw[show 4+z.s * 3 * 2=4+z.s * 6 by omega]at aD;have bS:∀aj,cq' bQ aj w (4+z.s * 6) 151 arr (nv (z.s * 3)) (mv (z.s * 3)) ((Mq.insP (l.sh z.s) (z.q,z.b,j)).map toV)->Wa p aj w a Q {l with sh:=fun i=>if i=z.s then Mq.insP (l.sh z.s) (z.q,z.b,j)else l.sh i}:=by
      intro aj hst;rw[show 4+z.s * 6=4+z.s * 3 * 2 by omega]at hst;obtain⟨bj,nv',mv',K',bk,bl⟩:=Ar' K (by omega) hst;refine⟨bj,nv',mv',fv,?_,?_,fun k hk=>?_⟩
      ·have:=xg' l z.s (Mq.insP (l.sh z.s) (z.q,z.b,j));rw[this]at K';exact K'
      ·refine F.trans bl (fun k hk h=>?_);rcases h with h|h
       ·exact h
       ·rcases N k (.inr (.inr ⟨z.s * 3,by omega,h⟩))with h|h
        ·exact h
        ·omega
      ·rcases bk k hk with h|h
       ·exact N k h
       ·exact .inr (z26 F.size h)
     have cz:=fun aj h=>m' (bS aj h);have cA:=m' aD;clear K F N I bR aD bp bS G;go_wp2_with (go_at_call 90;refine(d' cA).mono ?_;rintro e aj ⟨rfl,hst⟩;have cB:=cz aj hst;clear hst);exact⟨⟨j+1,by omega,by go_num,_,d' bg,d' cB⟩,by simp[intOf];omega⟩
  ·have bF:j=C:=(by omega);have aO:Mq.ldAll Q aA 0 Mq.ld0=some l:=(by rw[<-av,z46 (by have:=d' aW;omega)]);have aV:=Mq.ldAll_len _ _ _ _ aO;have bT:∀i,∀e∈l.sh i,e.1<=2147483647:=Mq.ldAll_inv (fun _ e=>e.1<=2147483647) _ _ _ _ aO (fun i e cC=>by cases cC) (fun k z ak _=>by
    rcases(d' bH) z (z72 ak)with h|h
    ·rw[h];exact z54 _
    ·exact h.2.2.1)
   have bU:∀t,t < 3->(l.sh t).length<=24:=fun t _=>(by have:=aV.2 t;have:=d' aW;simp[Mq.ld0]at *;omega);have bV:∀t,t < 3->Mq.Vz (l.sh t) (Q t)<=2147483647:=fun t bW=>by
    have h1:=(d' bI) t bW;unfold Mq.Vz;cases ab:(l.sh t).getLast? with
    |none=>simp only;omega
    |some e=>
     have:=bT t e (List.mem_of_getLast? ab);simp only
     omega
   have aP:=m' (z12 aO (z12 bU bV));obtain⟨aQ,bq⟩:=exq (wr);rw[<-bq]at H;have cD:=m' bq;have G:=m' H;have cY:¬ (j:Int) < (C:Int):=(by omega);clear bq H aO bU bV aV bT av bF cj;go_wp2;go_loopw[8,9,57] (fun _ _ i wr2=>∃t:Nat,t<=3/\i= .int .i64 t/\Below aQ.heap.size aQ wr2/\∀k,k < t->Mq.okP (l.sh k) (Q k)=true) (fun _ _ i _=>3 - (intOf i).toNat)
   case atStart=>exact⟨0,by omega,rfl,by rw[d' cD];exact z11 _ _,fun k hk=>by omega⟩
   case round=>
    obtain⟨t,bW,rfl,hb,ap⟩:=hrel;by_cases aE:t < 3
    ·have cE:=(d' G).below hb;obtain⟨arr,nv,mv,fv,K,F,N⟩:=cE;have br:=m' (th' K aE);have M:=m' hb;have cF:=(d' aP).2.2 t aE;have cG:=(d' aP).2.1 t aE;have cH:=(d' bI) t aE;have cZ:(0:Int)<=(t:Int):=(by omega);have da:(t:Int) < 3:=(by omega);obtain⟨O,bt⟩:=exq (Mq.Vz (l.sh t) (Q t));obtain⟨V,aR⟩:=exq ((l.sh t).length);obtain⟨Y,aS⟩:=exq (Q t);have bX:Mq.okP (l.sh t) (Q t)=(decide (O<=1073741824) &&decide (O=Y+V)):=(by rw[bt,aR,aS];rfl);rw[<-bt]at br cF;rw[<-aR]at cG;rw[<-aS]at cH;have aq:=m' (z12 ap bX);have bY:=m' (z12 aR aS);clear K F N hb bt aR aS ap bX;have db:IntKind.i64.wrap ((Y:Int)+(V:Int))=(Y:Int)+(V:Int):=(by rw[z36];omega);have ac:Hid (Mq.okP (l.sh t) (Q t)=false->Mq.Vy Q aA=none):=by
      refine m' (fun h=>?_);unfold Mq.Vy;rw[(d' aP).1];simp only
      rw[if_neg];rintro⟨bZ,ca,cb⟩;obtain rfl|rfl|rfl:t=0\/t=1\/t=2:=by omega
      ·rw[h]at bZ;cases bZ
      ·rw[h]at ca;cases ca
      ·rw[h]at cb;cases cb
     unfold D' at *;go_upto_region 15 with (go_at_call 88;refine(d' br).mono ?_;rintro z y ⟨rfl,dc,rfl⟩);refine G' (fun x=>Below aQ.heap.size aQ x) ((d' M).trans (z41 (z11 _ _) _ |>.mono (d' M).size)) ?_;clear M br;intro x bu;have aK:=(d' G).below bu;obtain⟨arr,nv,mv,fv,K,F,N⟩:=aK;have M:=m' bu;have bw:∀n,Calls prog 143 #[.pointer (some ⟨w,4+t * 3 * 2,none⟩)] (x.drewN n) fun e w'=>e= .returned (.int .i64 ((eN' l (t * 3)).length:Nat))/\w'=x.drewN n:=fun n=>qm' (w:=x.drewN n) K.blk (K.an (t * 3) (by omega)) ((K.shs (t * 3) (by omega)).far (aw' (fun _=>False) x n) (fun _ _ h=>h));have cc:(eN' l (t * 3)).length=V:=by rw[ea',z43,(d' bY).1]
     rw[cc,show 4+t * 3 * 2=4+t * 6 by omega]at bw;have bz:=fun n=>m' (bw n);have c1:x.cell? ⟨w,1+t,none⟩=some (.int .i64 Y):=(by rw[y' K.blk,K.ag t aE,(d' bY).2]);clear K F N bu bw cc;by_cases c2:(1073741824:Int) < (O:Int)
     ·have aF:=(d' ac) (by rw[(d' aq).2,z52 (show ¬O<=1073741824 by omega)];rfl);have aG:=m' aF;clear aF ac aq;go_quiet (first|(go_at_call 143;exact z57 (d' (bz _))));go_wp2;go_ret;refine⟨aR' (by rw[d' aG];rfl),?_,fun bo h=>?_⟩
      ·obtain⟨_,_,_,_,_,F,_⟩:=d' G;exact F.trans (C' (E:=fun _=>False) ((d' M).trans (z41 (z11 _ _) _ |>.mono (d' M).size))) (fun _ _ h=>h.elim)
      ·rw[d' aG]at h;cases h
     ·by_cases c3:(O:Int)=(Y:Int)+(V:Int)
      ·have cI:((O:Int) != (Y:Int)+(V:Int))=false:=(by simp[c3]);have cJ:Hid (Mq.okP (l.sh t) (Q t)=true):=(by show _= _;rw[(d' aq).2,z47 (show O<=1073741824 by omega),z47 (show O=Y+V by omega)];rfl);clear ac c3;go_quiet (first|(go_at_call 143;exact z57 (d' (bz _))));go_wp2;refine⟨⟨t+1,by omega,by go_num,(d' M).trans (z41 (z11 _ _) _ |>.mono (d' M).size),fun k hk=>?_⟩,by simp[intOf];omega⟩;by_cases e:k=t
       ·rw[e];exact d' cJ
       ·exact(d' aq).1 k (by omega)
      ·have cI:((O:Int) != (Y:Int)+(V:Int))=true:=(by simp;omega);have aF:=(d' ac) (by rw[(d' aq).2,z52 (show ¬O=Y+V by omega)];simp);have aG:=m' aF;clear aF ac aq c3;go_quiet (first|(go_at_call 143;exact z57 (d' (bz _))));go_wp2;go_ret;refine⟨aR' (by rw[d' aG];rfl),?_,fun bo h=>?_⟩
       ·obtain⟨_,_,_,_,_,F,_⟩:=d' G;exact F.trans (C' (E:=fun _=>False) ((d' M).trans (z41 (z11 _ _) _ |>.mono (d' M).size))) (fun _ _ h=>h.elim)
       ·rw[d' aG]at h;cases h
    ·have cK:t=3:=(by omega);subst cK;have cd:Mq.Vy Q aA=some l:=by
      unfold Mq.Vy;rw[(d' aP).1];simp only
      rw[if_pos ⟨ap 0 (by omega),ap 1 (by omega),ap 2 (by omega)⟩]
     have ce:=m' cd;have cf:=m' ((d' G).below hb);clear cd ap hb G;go_wp2;go_ret;refine⟨aR' (by rw[d' ce];rfl),?_,fun bo h=>?_⟩
     ·obtain⟨_,_,_,_,_,F,_⟩:=d' cf;exact F
     ·rw[d' ce]at h;cases h;exact d' cf
end Go.Proofs.YtamafdcnbcoegaaGreat
namespace Go.Proofs.YtamafdcnbcoegaaGreat
attribute [local simp, local go_sem] Ev Ep Ei Eb Et
namespace Mq
def cnt (l:Nat->List z10):Nat:=(l 0).length+(l 1).length+(l 2).length
def Yo (l:Nat->List z10) (s:Nat) (b:z10):Nat->List z10:=fun j=>if j=s then l s++[b]else l j
theorem cnt_add (l:Nat->List z10) (s:Nat) (b:z10) (hs:s < 3):cnt (Yo l s b)=cnt l+1:=by
 unfold cnt Yo;obtain rfl|rfl|rfl:s=0\/s=1\/s=2:=by omega
 all_goals
  simp;try omega
def skLd:List Rc->Nat->(Nat->List z10)->Option (Nat->List z10)
 |[],_,l=>some l
 |r::rs,x,l=>if r.q=0 then skLd rs (x+1) l else if x=cnt l/\r.q=(l r.s).length+1 then skLd rs (x+1) (Yo l r.s r.b)else none
def skLoad (L:List UInt8):Option Sk:=
 match openSt L with
 |none=>none
 |some (h,_,rs)=>if h.b=0/\h.d=0 then(match skLd rs 0 (fun _=>[])with
  |none=>none
  |some l=>some {Qa:=h.a,Qc:=l,held:=[]})else none
theorem Vx:∀ (rs z:List Rc) (x:Nat) (l:Nat->List z10),skLd (rs++z) x l=match skLd rs x l with
  |none=>none
  |some F=>skLd z (x+rs.length) F
 |[],z,x,l=>by simp[skLd]
 |r::rs,z,x,l=>by
  rw[yY',skLd,skLd,z56,show x+(rs.length+1)=x+1+rs.length by omega];split
  ·exact Vx rs z (x+1) l
  ·split
   ·exact Vx rs z (x+1) _
   ·rfl
theorem skLd_zero:∀ (n x:Nat) (l:Nat->List z10),skLd (List.replicate n rc0) x l=some l
 |0,_,_=>rfl
 |n+1,x,l=>by rw[List.replicate_succ,skLd,if_pos (show rc0.q=0 from rfl)];exact skLd_zero n (x+1) l
theorem skLd_gap:∀ (rs:List Rc) (x:Nat) (l z:Nat->List z10),cnt l < x->skLd rs x l=some z->z=l/\∀r∈rs,r.q=0
 |[],x,l,z,_,h=>by cases h;exact⟨rfl,fun r F=>by cases F⟩
 |r::rs,x,l,z,H,h=>by
  rw[skLd]at h;split at h
  ·rename_i h0;obtain⟨e,i⟩:=skLd_gap rs (x+1) l z (by omega) h;exact⟨e,fun G F=>by
    cases F with
    |head=>exact h0
    |tail _ F=>exact i G F⟩
  ·rw[if_neg (by omega)]at h;cases h
theorem skLd_some:∀ (rs:List Rc) (x:Nat) (l F:Nat->List z10),cnt l=x->(∀r∈rs,r.s < 3)->skLd rs x l=some F->
  ∃n,n<=rs.length/\cnt F=x+n/\skLd (rs.take n) x l=some F/\(∀y,y < n->∃r,rs[y]? =some r/\r.q≠0)/\∀y,n<=y->∀r,rs[y]? =some r->r.q=0
 |[],x,l,F,H,_,h=>by cases h;exact⟨0,z13 _,H,rfl,fun y I=>by omega,fun y _ r z=>by simp at z⟩
 |r::rs,x,l,F,H,hs,h=>by
  have Q:=h;rw[skLd]at h;split at h
  ·rename_i h0;obtain⟨e,i⟩:=skLd_gap rs (x+1) l F (by omega) h;subst e;refine⟨0,z54 _,H,rfl,fun y I=>by omega,fun y _ G z=>?_⟩;cases y with
   |zero=>simp at z;rw[<-z];exact h0
   |succ y=>exact i G (z72 (by simpa using z))
  ·rename_i h0;split at h
   ·rename_i h1;obtain⟨n,n1,n2,J,M,O⟩:=skLd_some rs (x+1) _ F (by rw[cnt_add _ _ _ (hs r (.head _)),H]) (fun G z=>hs G (.tail _ z)) h;refine⟨n+1,by simp;omega,by omega,?_,fun y I=>?_,fun y I G z=>?_⟩
    ·rw[wq',skLd,if_neg h0,if_pos h1];exact J
    ·cases y with
     |zero=>exact⟨r,rfl,h0⟩
     |succ y=>exact M y (by omega)
    ·cases y with
     |zero=>omega
     |succ y=>exact O y (by omega) G (by simpa using z)
   ·cases h
structure Zu (L:List UInt8) (op ct hd e:Nat) (Qc:Nat->List z10):Prop where
 ok:Zy L op ct hd (fun i=>if i=0 then e else 0) 122
 rcs:∃ord:List Rc,ord.length=cnt Qc/\cnt Qc<=120/\(∀r∈ord,r.fits)/\skLd ord 0 (fun _=>[])=some Qc/\∀x,x < 120->Yl (sec L (2+x)) op (ord.getD x rc0)
variable{m:List UInt8}{w a q r:Nat}{S:Nat -> List z10}
theorem Zu.loads (h:Zu m w a q r S) (F:w<=1073741824):skLoad m=some {Qa:=r,Qc:=S,held:=[]}:=by
 obtain⟨z,O,Q,V,G,H⟩:=h.rcs;obtain⟨c,I⟩:=h.ok.opens F (fun x=>z.getD x rc0) (fun x J=>H x J);have M:(List.range (122 - 2)).map (fun x=>z.getD x rc0)=z++List.replicate (120 - z.length) rc0:=by
  apply z94;intro i;rw[z70,List.getElem?_append,Ah'];by_cases hi:i < 120
  ·rw[List.getElem?_range (by omega)];by_cases hl:i < z.length
   ·rw[if_pos hl];simp[List.getD_eq_getElem?_getD,hl]
   ·rw[if_neg hl,if_pos (by omega)];simp[List.getD_eq_getElem?_getD,List.getElem?_eq_none (by omega:z.length<=i)]
  ·rw[z76 (by simp;omega),if_neg (by omega),if_neg (by omega)];rfl
 unfold skLoad;rw[I];simp only
 rw[if_pos (by simp),M,Vx,G];simp only
 rw[skLd_zero];simp
variable{C:Nat}
theorem Zu.commit (h:Zu m w a q r S) {b:z10} (hs:C < 3) (hb:b.size<=20) (z:cnt S < 120) (H:a+1 < 18446744073709551616):
  Zu (Xa m (2+cnt S) (Xl w (a+1) ⟨C,(S C).length+1,b⟩)) w (a+1) q r (Yo S C b):=by
 obtain⟨F,I,Z,M,O,Q⟩:=h.rcs;have G:(Xl w (a+1) ⟨C,(S C).length+1,b⟩).length=64:=Ye hb;have aa:(S C).length<=cnt S:=by
  unfold cnt;obtain rfl|rfl|rfl:C=0\/C=1\/C=2:=by omega
  all_goals omega
 have J:Rc.fits ⟨C,(S C).length+1,b⟩:=⟨hs,by show 1<=(S C).length+1;omega,by show(S C).length+1<= _;omega,hb⟩;refine⟨h.ok.record G (by omega) H,F++[⟨C,(S C).length+1,b⟩],by rw[cnt_add _ _ _ hs];simp[I],by rw[cnt_add _ _ _ hs];omega,?_,?_,fun x V=>?_⟩
 ·intro Y z;rw[z61]at z;rcases z with z|z
  ·exact M Y z
  ·rw[z51]at z;rw[z];exact J
 ·rw[Vx,O];simp only
  rw[skLd,if_neg (by show ¬ (S C).length+1=0;omega),if_pos ⟨by omega,rfl⟩,skLd]
 ·have hl:=h.ok.len;by_cases r:x=cnt S
  ·subst r;rw[sec_set G (by omega),z17,z29 (by omega),I,xV'];exact .inr ⟨w,a+1,h.ok.op1,z13 _,h.ok.opm,H,J,rfl⟩
  ·rw[Zd G (by omega) (by omega)];have:(F++[Rc.mk C ((S C).length+1) b]).getD x rc0=F.getD x rc0:=by
    rw[z17,z17,List.getElem?_append];split
    ·rfl
    ·rw[z76 (by simp;omega),z76 (by omega)]
   rw[this];exact Q x V
theorem Zu.Qa {L:List UInt8} {op ct hd e:Nat} {Qc:Nat->List z10} (h:Zu L op ct hd e Qc) {z:Nat} (V:z<=2147483647) (F:ct+1 < 18446744073709551616):
  Zu (Xa L (1 - hd) (Zf ⟨op,ct+1,z,0,0⟩)) op (ct+1) (1 - hd) z Qc:=by
 obtain⟨G,H,I,J,M,O⟩:=h.rcs;have hl:=h.ok.len;refine⟨h.ok.numbers (g':=fun i=>if i=0 then z else 0) (fun i _=>by show(if i=0 then z else 0)<= _;split <;> omega) F,G,H,I,J,M,fun x Q=>?_⟩;rw[Zd (Zb _) (by omega) (by omega)];exact O x Q
variable{bY:Sk}
theorem skLoad_some (h:skLoad m=some bY):∃hd at' rs,openSt m=some (hd,at',rs)/\hd.b=0/\hd.d=0/\bY.Qa=hd.a/\bY.held=[]/\skLd rs 0 (fun _=>[])=some bY.Qc:=by
 unfold skLoad at h;cases z:openSt m with
 |none=>rw[z]at h;cases h
 |some p=>
  obtain⟨hd,at',rs⟩:=p;rw[z]at h;simp only at h;split at h
  ·rename_i h0;cases hl:skLd rs 0 (fun _=>[])with
   |none=>rw[hl]at h;cases h
   |some l=>rw[hl]at h;cases h;exact⟨hd,at',rs,rfl,h0.1,h0.2,rfl,rfl,hl⟩
  ·cases h
variable{aJ:Hd}{aP:List Rc}
theorem skDisk_opened {a:Sk} (O:openSt m=some (aJ,w,aP)) (hb:aJ.b=0) (hd0:aJ.d=0) (hl:skLd aP 0 (fun _=>[])=some a.Qc) (Q:m.length=7808):
  Zu (openL m aJ w) (aJ.o+1) 1 (1 - w) aJ.a a.Qc:=by
 obtain⟨hn,F⟩:=Vg O;rw[Q]at F;obtain⟨ah,I⟩:=Xk _ _ F;have J:∀x,x < 120->Yl (sec m (2+x)) (aJ.o+1) (aP.getD x rc0):=fun x z=>by obtain⟨k1,k2⟩:=I x z;rw[z44]at k1 k2;rw[z17,k2];exact(recAt_ok k1).up (by omega)
 have V:∀r∈aP,r.s < 3:=fun r F=>by obtain⟨x,z,e⟩:=z78.1 F;obtain⟨k1,k2⟩:=I x (by omega);rw[z18 z,e]at k2;cases k2;exact(recOk_small k1).1
 obtain⟨n,n1,n2,Y,Z,aa⟩:=skLd_some aP 0 _ _ (by rfl) V hl;have ab:=Yr hn (m:=122) (by omega) (by omega);refine⟨?_,aP.take n,by simp;omega,by omega,fun r F=>?_,Y,fun x z=>?_⟩
 ·have:aJ.num=fun i=>if i=0 then aJ.a else 0:=by
   funext i;unfold Hd.num;split
   ·rfl
   ·split
    ·exact hb
    ·exact hd0
  rw[<-this];exact ab
 ·obtain⟨x,z,e⟩:=z78.1 F;have G:x < n:=by simp at z;omega
  obtain⟨M,h1,h2⟩:=Z x G;have h3:aP.getD x rc0=M:=by rw[z17,h1];rfl
  have h4:r=M:=by rw[<-e];simp only[List.getElem_take];rw[z18 (by omega)]at h1;cases h1;rfl
  have:=J x (by omega);rw[h3,<-h4]at this;rcases this with ⟨_,ac⟩|⟨_,_,_,_,_,_,H,_⟩
  ·rw[<-h4,ac]at h2;exact absurd rfl h2
  ·exact H
 ·rw[openL_other (m:=122) (by omega) (by omega) (by omega)];have h0:=J x z;by_cases G:x < n
  ·have:(aP.take n).getD x rc0=aP.getD x rc0:=(by rw[z17,z17,z69,if_pos G]);rw[this];exact h0
  ·have:(aP.take n).getD x rc0=rc0:=(by rw[z17,z76 (by simp;omega)];rfl);rw[this];have ai:=aa x (by omega) (aP.getD x rc0) (by rw[z17,z18 (by omega)];rfl);rcases h0 with ⟨ad,_⟩|⟨_,_,_,_,_,_,H,_⟩
   ·exact .inl ⟨ad,rfl⟩
   ·have:=H.2.1;omega
end Mq
end Go.Proofs.YtamafdcnbcoegaaGreat
namespace Go.Proofs.YtamafdcnbcoegaaGreat
attribute [local simp, local go_sem] Ev Ep Ei Eb Et
open Go.RowKit Go.Proofs.Tryz
def zV' (B:Nat) (b:z10) (v:Value) (w:World):Prop:=∃g,v= .slice (some ⟨g,0,none⟩) 1 1/\B<=g/\w.heap[g]? =some (.cells #[.string b] 9 (0,0))
theorem rl' (B:Nat) (b:z10):bm' (zV' B b):=fun _ _ _ h hb=>by
 obtain⟨g,e,h1,h2⟩:=h;exact⟨g,e,h1,(hb.block g (z14 h2)).trans h2⟩
variable{w:Nat}{o:z10}{D:Nat -> Prop}
theorem ip' (z:∀k,D k->k < w):bP' D (zV' w o):=fun _ _ _ h hF=>by
 obtain⟨g,e,h1,h2⟩:=h;exact⟨g,e,h1,hF.blk h2 (fun e=>by have:=z _ e;omega)⟩
def zW' (w0:World) (fv:Value) (n:Nat) (xs:List Value) (v:Value) (w:World):Prop:=Qi w 9 1 v n xs/\Loc w0 fv v/\w0.heap.size<=w.heap.size
theorem rm' (w0:World) (fv:Value) (n:Nat) (xs:List Value):bm' (zW' w0 fv n xs):=fun _ _ _ h hb=>
 ⟨h.1.keep (fun g z=>hb.block g (h.1.lt g z)),h.2.1,z26 h.2.2 hb.size⟩
variable{p:World}{c:Value}{t:List Value}
theorem oW' (F:∀k,D k->k < p.heap.size/\c.ownBlock≠some k):bP' D (zW' p c w t):=fun _ _ _ h hF=>
 ⟨h.1.far hF (fun g z e=>by
  obtain⟨h1,h2⟩:=F g e;rcases h.2.1 with h3|h3|⟨k,h3,h4⟩
  ·rw[h3]at z;cases z
  ·rw[h3]at z;exact h2 z
  ·rw[h3]at z;cases z;omega),h.2.1,z26 h.2.2 hF.size⟩
theorem vg' (s q:Nat) (b:z10) (F:q≠0) (w:World):(binOp .eql 155 (.agg #[.int .i64 s, .int .i64 q, .string b]) (.agg #[.int .i64 0, .int .i64 0, .string ⟨#[]⟩])).run prog w= .ok (.bool false) w:=by
 have z:((q:Int) ==0)=false:=by simp;omega
 rw[run_eql_struct,run_equalIn_struct w 9999 155 _ _ (by kernel_rfl) (by kernel_rfl)];cases hs:((s:Int) ==0) <;> simp[go_sem,z,hs]
theorem tj' (w:World):(binOp .eql 155 (.agg #[.int .i64 0, .int .i64 0, .string ⟨#[]⟩]) (.agg #[.int .i64 0, .int .i64 0, .string ⟨#[]⟩])).run prog w= .ok (.bool true) w:=by kernel_rfl
def iq' (w x:World) (p e s:Nat) (Qc:Nat->List z10):Prop:=
 ∃arr lv,Yq x p e Qc (fun _=>[]) arr s lv (fun _=> .slice none 0 0) (fun _=> .map none) (.slice none 0 0)/\Far (fun k=>k=p) w x/\∀i,i < 3->∀g,(lv i).ownBlock=some g->w.heap.size<=g
theorem iq'.below {w x y:World} {p e s:Nat} {Qc:Nat->List z10} (h:iq' w x p e s Qc) (hb:Below x.heap.size x y):iq' w y p e s Qc:=by
 obtain⟨arr,lv,h1,h2,h3⟩:=h;exact⟨arr,lv,h1.far (C' (E:=fun _=>False) hb) (fun _ _ h=>h),h2.trans (C' (E:=fun _=>False) hb) (fun _ _ h=>h.elim),h3⟩
def eD' (s e:Nat) (rv:Value):Array Value:= #[D' s, .int .i64 e, .slice none 0 0, .slice none 0 0, .map none, .slice none 0 0, .slice none 0 0, .map none, .slice none 0 0, .slice none 0 0, .map none,rv]
variable{a q:Nat}
theorem xi' (hb:p.heap[w]? =some (.cells (eD' q a (.slice none 0 0)) 176 (0,0))) (F:a<=2147483647):iq' p p w a q (fun _=>[]):=by
 have h3:∀i,i < 3->(eD' q a (.slice none 0 0))[2+i * 3]? =some (.slice none 0 0)/\(eD' q a (.slice none 0 0))[2+i * 3+1]? =some (.slice none 0 0)/\(eD' q a (.slice none 0 0))[2+i * 3+2]? =some (.map none):=by
  intro i hi;obtain rfl|rfl|rfl:i=0\/i=1\/i=2:=by omega
  all_goals exact⟨rfl,rfl,rfl⟩
 refine⟨_,fun _=> .slice none 0 0,⟨hb,rfl,rfl,rfl,fun i hi=>(h3 i hi).1,fun i hi=>(h3 i hi).2.1,fun i hi=>(h3 i hi).2.2,rfl,fun i hi=>bb' _ _ _,fun i hi=>fQ' _,(fun i hi x G=>by cases G),(fun i j _ _ _ g z=>by cases z),fun i j _ _ _ k hk=>?_,by simp,F⟩,Far.refl _ _,fun i _ g z=>by cases z⟩;rcases hk with h|h <;> cases h
variable{aA:List Mq.Rc}{cY:Mq.Rc}{S:Nat -> List z10}
theorem vh' (z:aA[w]? =some cY) (h:Mq.skLd (aA.take w) 0 (fun _=>[])=some S):
  Mq.skLd (aA.take (w+1)) 0 (fun _=>[])=if cY.q=0 then some S else if w=Mq.cnt S/\cY.q=(S cY.s).length+1 then some (Mq.Yo S cY.s cY.b)else none:=by
 obtain⟨hj,e⟩:=z28.1 z;rw[z84 hj,e,Mq.Vx,h];simp only[List.length_take];rw[show 0+min w aA.length=w by omega];rfl
theorem rn' {j:Nat} (h:Mq.skLd (aA.take j) 0 (fun _=>[])=none):Mq.skLd aA 0 (fun _=>[])=none:=by
 have:=Mq.Vx (aA.take j) (aA.drop j) 0 (fun _=>[]);rw[wH',h]at this;exact this
theorem oX' {w:World} {p e s g cap m:Nat} {rs:List Mq.Rc} (aC:w.heap[p]? =some (.cells (eD' s e (.slice none 0 0)) 176 (0,0))) (V:w.ownsRow 0 155 3 (.slice (some ⟨g,0,none⟩) m cap) m (df' rs)) (ba:rs.length=m) (ce:m<=120)
  (bb:∀r∈rs,r=Mq.rc0\/r.fits) (bc:e<=2147483647):
  Calls prog 108 #[D' p, .slice (some ⟨g,0,none⟩) m cap] w fun r w'=>r= .returned (.bool (Mq.skLd rs 0 (fun _=>[])).isSome)/\Far (fun k=>k=p) w w'/\∀Qc,Mq.skLd rs 0 (fun _=>[])=some Qc->iq' w w' p e s Qc:=by
 have bd:0 < m->g≠p:=fun _ e=>by have:=(Qi.Qv V).ne aC (by decide);exact this (by rw[e];rfl)
 have be:∀j r,rs[j]? =some r->w.cell? ⟨g,j * 3,none⟩=some (.int .i64 r.s)/\w.cell? ⟨g,j * 3+1,none⟩=some (.int .i64 r.q)/\w.cell? ⟨g,j * 3+2,none⟩=some (.string r.b):=by
  intro j r hj;have bf:=(z28.1 hj).1;obtain⟨Y,cf,e,_,_,aq⟩:=(Qi.Qv V).shape;obtain⟨g',cg,aD,aq⟩:=aq (by omega);rw[aD]at e;injection e with e;injection e with e;injection e with e bB;subst e bB;have ch:=dV' rs;have:=iZ' rs j r hj;refine⟨?_,?_,?_⟩
  ·have h:=aq (j * 3) (by omega);rw[z44]at h;rw[h];exact this.1
  ·have h:=aq (j * 3+1) (by omega);rw[z44]at h;rw[h];exact this.2.1
  ·have h:=aq (j * 3+2) (by omega);rw[z44]at h;rw[h];exact this.2.2
 have bC:=m' be;have bD:=m' bd;have ci:=z14 aC;have bg:=m' (xi' aC bc);have bE:=m' bb;have bh:=m' ba;clear V be bd aC bb ba bc;unfold D';go_enter func108,ntmps108;go_wp2;go_loopw[5,6,7,10] (fun _ _ _ i wr=>∃j:Nat,j<=m/\i= .int .i64 j/\∃Qc,Mq.skLd (rs.take j) 0 (fun _=>[])=some Qc/\iq' w wr p e s Qc) (fun _ _ _ i _=>m - (intOf i).toNat)
 case atStart=>exact⟨0,by omega,rfl,_,rfl,d' bg⟩
 case round=>
  obtain⟨j,hj,rfl,Qc,aE,J⟩:=hrel;clear bg;by_cases cj:j < m
  ·obtain⟨r,au⟩:∃r,rs[j]? =some r:=⟨_,z18 (by have:=d' bh;omega)⟩;obtain⟨aL,bi,aD⟩:=(d' bC) j r au;have hst:=vh' au aE;have aF:=(d' bE) r (z72 au);have bF:g < w.heap.size:=z66 _ _ aL;have aG:wr.heap[g]? =w.heap[g]? :=(by obtain⟨_,_,_,hF,_⟩:=J;exact hF.rest g bF ((d' bD) (by omega)));have bG:=(z39 (w:=w) aG:wr.cell? ⟨g,j * 3,none⟩= _).trans aL;have bH:=(z39 (w:=w) aG:wr.cell? ⟨g,j * 3+1,none⟩= _).trans bi;have bI:=(z39 (w:=w) aG:wr.cell? ⟨g,j * 3+2,none⟩= _).trans aD;have G:=m' J;have av:=m' hst;have ck:=m' au;clear aG aL bi aD J aE hst au;obtain⟨Z,aH⟩:=exq (wr.heap.size);have cl:=m' aH;go_upto_region 4 with fail;rw[<-aH];refine G' (fun x=>x.heap[Z]? =some (.cells #[.int .i64 r.s, .int .i64 r.q, .string r.b] 155 (0,0))/\Z < x.heap.size/\iq' w x p e s Qc) ?_ ?_
   ·rw[aH];exact⟨z19 _ _,by simp,(d' G).below ((z11 _ _).alloc (z13 _) _)⟩
   clear bG bH bI aH G;rintro x ⟨F,bJ,bj⟩;obtain⟨r0,aa,ab⟩:=cC' F;simp at r0 aa ab;have ac:=m' F;have G:=m' bj;clear F bj;by_cases ad:r.q=0
   ·have bK:r=Mq.rc0:=by
     rcases aF with h|h
     ·exact h
     ·have:=h.2.1;omega
    have bk:=tj';have ax:Hid (Mq.skLd (rs.take (j+1)) 0 (fun _=>[])=some Qc):=(by show _= _;rw[d' av,if_pos ad]);subst bK;unfold Mq.rc0 at r0 aa ab;simp only at r0 aa ab;clear av ad aF;go_wp2;go_roundw
    case rel=>exact⟨j+1,by omega,by go_num,Qc,d' ax,d' G⟩
    case measure=>simp[intOf];omega
   ·have aj:r.fits:=by
     rcases aF with h|h
     ·rw[h]at ad;exact absurd rfl ad
     ·exact h
    have bk:=vg' r.s r.q r.b ad;obtain⟨H,bl,bm,bn⟩:=aj;have s0:(0:Int)<=(r.s:Int):=(by omega);have s3:(r.s:Int) < 3:=(by omega);have aM:=m' (z12 ad (z12 bl (z12 bm bn)));clear ad bl bm bn aF;go_upto_region 5 with fail;go_quiet (fail);go_upto_region 6 with fail;refine G' (fun y=>y.heap[Z]? =some (.cells #[.int .i64 r.s, .int .i64 r.q, .string r.b] 155 (0,0))/\iq' w y p e s Qc) ⟨d' ac,(d' G).below (z41 (z11 _ _) _)⟩ ?_;clear r0 aa ab ac G bk bJ;rintro y ⟨F,J⟩;have aa:=y' (i:=1) F;have ab:=y' (i:=2) F;simp at aa ab;have bL:=z14 F;have ac:=m' F;have G:=m' J;obtain⟨arr,lv,K,ah,N⟩:=J;obtain⟨Y,ai,ak,ay⟩:=K.logc H;have aN:=K.Vb H;have bM:(Qc 0).length+(Qc 1).length+(Qc 2).length<=120:=K.cnt;have ao:=fun n=>m' (eK' (w:=y.drewN n) (K.far (aw' (fun _=>False) y n) (fun _ _ h=>h)));have az:=fun n=>m' (dS' (y.drewN n) p (2+r.s * 3) _ ai Y ay (by omega));have Q:=m' (z12 K (z12 ah (z12 N ak)));have aO:Mq.cnt Qc=(Qc 0).length+(Qc 1).length+(Qc 2).length:=rfl;clear K ah N ak ay F;obtain⟨aP,aQ⟩:=exq ((Qc 0).length+(Qc 1).length+(Qc 2).length);obtain⟨aR,ax⟩:=exq ((Qc r.s).length+1);rw[<-aQ]at ao aO bM;rw[<-ax]at az;have aA:=m' (z12 aO (z12 ax aQ));clear aO aQ ax;unfold D' at ao;by_cases c1:j=aP
    ·have bN:((j:Int) != (aP:Int))=false:=(by simp[c1]);by_cases c2:r.q=aR
     ·have bO:((r.q:Int) != (aR:Int))=false:=(by simp[c2]);have aS:=m' (z12 c1 c2);clear c1 c2;go_quiet (first
       |(go_at_call 157;exact z57 (d' (ao _)))
       |(go_at_call 158;exact z57 (d' (az _))))
      go_upto_region 8 with fail
      refine G' (fun ap=>ap.heap[Z]? =some (.cells #[.int .i64 r.s, .int .i64 r.q, .string r.b] 155 (0,0))/\iq' w ap p e s Qc) ⟨d' ac,(d' G).below (z41 (z11 _ _) _)⟩ ?_;clear aa ab ac G Q ao az aN bL;rintro ap ⟨F,J⟩;obtain⟨arr,lv,K,ah,N⟩:=J;obtain⟨Y,ai,ak,ay⟩:=K.logc H;have aN:=K.Vb H;have cm:=z14 F;have cn:=z14 K.blk;have V:=K.lgs r.s H;have aI:=K.lgs r.s H |>.ne K.blk (by decide);have bP:=K.lgs r.s H |>.ne F (by decide);have bQ:=fun g z=>V.lt g z;have bR:¬Z=p:=fun e=>(by have h:=K.blk;rw[<-e,F]at h;injection h with h;injection h with _ h _;exact absurd h (by decide));obtain⟨n0,aT⟩:=exq ((Qc r.s).length);rw[<-aT]at ak aN V ay;have Q:=m' K;have bo:=m' (z12 ah N);have ac:=m' F;have aJ:=m' ak;have bS:=m' V;have bT:=m' aT;clear K ah N F ak V ay aT;refine af'
       [Ep p (2+r.s * 3),Ep p (2+r.s * 3),Ep p (2+r.s * 3),Ep p (2+r.s * 3),Ev (.slice Y n0 ai),Ep Z 2,Ev (.string r.b),zV' ap.heap.size r.b,zW' ap (lv r.s) (n0+1) (ao' (Qc r.s)++[.string r.b]),Ep p (2+r.s * 3),Ep p (2+r.s * 3),
        fun _ u=>iq' w u p e s (Mq.Yo Qc r.s r.b)]
       [[7],[7],[2036],[3037],[4038],[6],[6040],[7041],[5039,8042],[1035],[10044],[11045,9043]] [36,37,38,39,40,41,42,43,44,45,46,0] [35,11,1]
       [(8,fun k=>(lv r.s).ownBlock=some k),(11,fun k=>k=p)] ?_ ?_ (hst:=by repeat' (first|exact V' _|exact rl' _ _|exact rm' _ _ _ _|exact(fun _ _ _ h hb=>h.below hb)|exact trivial|apply z12)) (hstF:=by repeat' (first|exact trivial|exact .inl rfl|exact .inr (.inr (bj' _ _))|exact .inr (.inr (ip' (fun g z=>bQ g z)))|exact .inr (.inr (ip' (fun g (z:g=p)=>by omega)))|exact .inr (.inr (oW' (fun g (z:g=p)=>⟨by omega,by rw[z];exact aI⟩)))|exact .inr (.inl (show bJ' _ 11 8=true by decide+kernel))|apply z12))
      ·refine⟨?_,?_,?_,?_,?_,?_,?_,?_,?_,?_,?_,?_,trivial⟩;all_goals
        intro a' M hb aj;have aU:=hb.size;have aK:=m' hb;clear hb;simp[I']at aj
       iterate 4
        ·go_simp;exact⟨_,rfl,Far.refl _ _,rfl⟩
       ·have d0:=(d' aK).blk (d' Q).blk (by
         rintro⟨q,I,g1,g2,O⟩;simp at I;rcases I with rfl|rfl
         ·exact aI O
         ·exact absurd (show bJ' _ 11 4=false from g2) (by decide+kernel))
        have d1:M.cell? ⟨p,2+r.s * 3,none⟩=some (.slice Y n0 ai):=(by rw[y' d0,(d' Q).al r.s H,d' aJ]);clear d0;go_simp;exact⟨_,rfl,Far.refl _ _,rfl⟩
       ·go_simp;exact⟨_,rfl,Far.refl _ _,rfl⟩
       ·have d0:=(d' aK).blk (d' ac) (by
         rintro⟨q,I,g1,g2,O⟩;simp at I;rcases I with rfl|rfl
         ·exact bP O
         ·exact bR O)
        have d1:M.cell? ⟨Z,2,none⟩=some (.string r.b):=y' (i:=2) d0;clear d0;go_simp;exact⟨_,rfl,Far.refl _ _,rfl⟩
       ·go_simp;exact⟨_,rfl,C' ((z11 _ _).alloc (z13 _) _),_,rfl,aU,z19 M _⟩
       ·have bU:=(d' bS).far (d' aK) (by
         rintro g z ⟨q,I,g1,g2,O⟩;simp at I;rcases I with rfl|rfl
         ·exact g1 rfl
         ·have O:g=p:=O;exact aI (by rw[z,O]))
        obtain⟨g,z,cp,bV⟩:=aj.2;have bW:Qi M 9 1 (.slice Y n0 ai) n0 (ao' (Qc r.s)):=(by rw[<-d' aJ];exact bU);refine cK' rfl (.tmp 39) (.tmp 42) 45 rfl 9 _ 1 16 underlying45 bQ' rfl (.slice Y n0 ai) n0 (ao' (Qc r.s)) bW (by simp[Act.eval,aj]) ⟨g,0,none⟩ 1 1 [.string r.b] (by simp[Act.eval,z]) rfl ?_ (by intro u hu;simp at hu;subst hu;rfl) (by omega) (by omega) (by omega) ?_
        ·intro k u hk;rw[dG',y' bV,z44];simpa using hk
        ·intro v' w' g1 g2;have aV:=g2.grown;rw[<-d' aJ]at aV g2;exact⟨v',rfl,an' (.head _) (ba' aV),g1,dy' aU g2,z26 aU aV.size⟩
       ·go_simp;exact⟨_,rfl,Far.refl _ _,rfl⟩
       ·go_simp;exact⟨_,rfl,Far.refl _ _,rfl⟩
       ·have aW:Far (fun k=>(lv r.s).ownBlock=some k) ap M:=(d' aK).mono (by
         rintro k _ ⟨q,I,g1,g2,O⟩;simp at I;rcases I with rfl|rfl
         ·exact O
         ·exact absurd rfl g1)
        have d0:=aW.blk (d' Q).blk aI;have f1:M.frozen? ⟨p,2+r.s * 3,none⟩=false:=H' d0;have d1:M.cell? ⟨p,2+r.s * 3,none⟩=some (.slice Y n0 ai):=(by rw[y' d0,(d' Q).al r.s H,d' aJ]);obtain⟨cq,aX⟩:=aj;obtain⟨bX,bY,bZ,_⟩:=aX.1.shape;have bp:=m' aX;have bq:=m' aW;clear aX d0 aW;rw[bZ]at bp;go_simp;refine⟨an' (.tail _ (.head _)) (Q' M p (2+r.s * 3) _),?_⟩;obtain⟨ca,br,_⟩:=d' bp;have bt:=(d' bo).1;have aY:=(d' bo).2;have cb:(Qc 0).length+(Qc 1).length+(Qc 2).length < 120:=(by have h1:=(d' aA).2.2;have h2:=(d' aS).1;omega);have cc:=qr' (d' Q) r.s H r.b (.slice bX (n0+1) bY) (d' bq) (by rw[<-d' bT,show ao' (Qc r.s++[r.b])=ao' (Qc r.s)++[.string r.b] by simp[ao']];exact ca) br cb;have aZ:Far (fun k=>k=p) w M:=bt.trans (d' bq) (fun k hk h=>absurd (aY r.s H k h) (by omega));refine⟨_,_,cc,aZ.trans (Q' M p (2+r.s * 3) _) (fun _ _ h=>h),fun i hi g z=>?_⟩;split at z
        ·rcases br with h3|h3|⟨k,h3,h4⟩
         ·rw[h3]at z;cases z
         ·rw[h3]at z;exact aY r.s H g z
         ·rw[h3]at z;cases z;have:=bt.size;omega
        ·exact aY i hi g z
      ·intro f3 z3 aZ bu;have bw:=bu.2.2.2.2.2.2.2.2.2.2.2.1;have cd:=m' bw;clear bw bu aZ;simp only[O'];go_wp2;go_roundw
       case rel=>refine⟨j+1,by omega,by go_num,_,?_,d' cd⟩;rw[d' av,if_neg (d' aM).1,if_pos ⟨by rw[(d' aA).1];exact(d' aS).1,by rw[(d' aS).2];exact(d' aA).2.1⟩]
       case measure=>simp[intOf];omega
     ·have bO:((r.q:Int) != (aR:Int))=true:=(by simp;omega);have aB:Hid (Mq.skLd rs 0 (fun _=>[])=none):=(by refine m' (rn' (j:=j+1) ?_);rw[d' av,if_neg (d' aM).1,if_neg (fun h=>c2 (by rw[h.2,(d' aA).2.1]))]);clear c1 c2;go_quiet (first
       |(go_at_call 157;exact z57 (d' (ao _)))
       |(go_at_call 158;exact z57 (d' (az _))))
      go_wp2;go_ret;refine⟨aR' (by rw[d' aB];rfl),(d' Q).2.1.trans (aw' (fun _=>False) y _) (fun _ _ h=>h.elim),fun l h=>?_⟩;rw[d' aB]at h;cases h
    ·have bN:((j:Int) != (aP:Int))=true:=(by simp;omega);have aB:Hid (Mq.skLd rs 0 (fun _=>[])=none):=(by refine m' (rn' (j:=j+1) ?_);rw[d' av,if_neg (d' aM).1,if_neg (fun h=>c1 (by rw[h.1,(d' aA).1]))]);clear c1;go_quiet (first
      |(go_at_call 157;exact z57 (d' (ao _)))
      |(go_at_call 158;exact z57 (d' (az _))))
     go_wp2;go_ret;refine⟨aR' (by rw[d' aB];rfl),(d' Q).2.1.trans (aw' (fun _=>False) y _) (fun _ _ h=>h.elim),fun l h=>?_⟩;rw[d' aB]at h;cases h
  ·have bf:j=m:=(by omega);have bz:Mq.skLd rs 0 (fun _=>[])=some Qc:=(by rw[<-aE,z46 (by have:=d' bh;omega)]);have bA:=m' bz;have G:=m' J;clear bz aE J bf;go_wp2;go_ret;refine⟨aR' (by rw[d' bA];rfl),?_,fun l h=>?_⟩
   ·obtain⟨_,_,_,ah,_⟩:=d' G;exact ah
   ·rw[d' bA]at h;cases h;exact d' G
theorem iq'.behind {w x y:World} {p e s:Nat} {Qc:Nat->List z10} (h:iq' x y p e s Qc) (hb:Below w.heap.size w x):iq' w y p e s Qc:=by
 obtain⟨arr,lv,h1,h2,h3⟩:=h;exact⟨arr,lv,h1,(C' (E:=fun k=>k=p) hb).trans h2 (fun _ _ h=>h),fun i hi g z=>z26 hb.size (h3 i hi g z)⟩
def cO' (L:List UInt8) (h:Mq.Hd) (at':Nat):Mq.Stv:=⟨h.o+1,1,1 - at',⟨Mq.openL L h at',0,false⟩⟩
theorem nF' (L:List UInt8) (h:Mq.Hd) (at':Nat):((⟨h.o+1,0,at',⟨L,0,false⟩⟩:Mq.Stv).Qr h.a h.b h.d).2=cO' L h at':=by
 unfold Mq.Stv.Qr Mq.Dk.put cO' Mq.openL Mq.Zf;simp[Mq.Stv.next]
variable{m:List UInt8}
theorem tP' (h:Mq.recsFrom m w 0 a=some aA):∀r∈aA,r=Mq.rc0\/r.fits:=by
 intro r z;obtain⟨h1,h2⟩:=Mq.Xk a 0 h;obtain⟨x,F,e⟩:=z78.1 z;obtain⟨k1,k2⟩:=h2 x (by omega);rw[z18 F,e]at k2;cases k2;rcases Mq.recAt_ok k1 with ⟨_,G⟩|⟨_,_,_,_,_,_,H,_⟩
 ·exact .inl G
 ·exact .inr H
variable{u O:World}{r:Nat}{f G:Value}{P:Mq.Stv}{aQ:Obj}
theorem yu' (h:iq' p u w a q S) (hs:Vf u q r P c f) (hl:P.dk.bytes.length=7808) (hn:∀k,StU q r c f k->k≠w)
  (J:O=u.setCell ⟨w,11,none⟩ G) (M:Qi (O.alloc aQ) 179 2 G 2 (cI' w)):
  ∃F,Jt (O.alloc aQ) w a S (fun _=>[]) P F/\(∀k,PkU w F k->k=w\/p.heap.size<=k\/StU q r c f k\/G.ownBlock=some k):=by
 obtain⟨arr,lv,K,Y,N⟩:=h;subst J;have Q:=Q' u w 11 G;have H:Below (u.setCell ⟨w,11,none⟩ G).heap.size (u.setCell ⟨w,11,none⟩ G) ((u.setCell ⟨w,11,none⟩ G).alloc aQ):=(z11 _ _).alloc (z13 _) _;have I:Far (fun k=>k=w) u ((u.setCell ⟨w,11,none⟩ G).alloc aQ):=Q.trans (C' (E:=fun _=>False) H) (fun _ _ h=>h.elim);have z:∀j,j≠11->(arr.setIfInBounds 11 G)[j]? =arr[j]? :=fun j hj=>z16 (fun a=>hj a.symm);refine⟨⟨arr.setIfInBounds 11 G,q,r,lv,fun _=> .slice none 0 0,fun _=> .map none,G,c,f⟩,⟨⟨?_,by simpa using K.sz,?_,?_,?_,?_,?_,?_,?_,fun i hi=>fQ' _,K.are,K.apl,K.aps,K.cnt,K.ep⟩,?_,M,hl⟩,?_⟩
 ·exact(H.block w (by simp;exact z14 K.blk)).trans (aa' K.blk)
 ·rw[z _ (by omega)];exact K.a0
 ·rw[z _ (by omega)];exact K.a1
 ·intro i hi;rw[z _ (by omega)];exact K.al i hi
 ·intro i hi;rw[z _ (by omega)];exact K.an i hi
 ·intro i hi;rw[z _ (by omega)];exact K.am i hi
 ·have:=K.sz;simp[this]
 ·intro i hi;exact(K.lgs i hi).far I (fun g V a=>(K.lgs i hi).ne K.blk (by decide) (by rw[V,a]))
 ·exact hs.far I (fun k hk a=>hn k hk a)
 ·rintro k ((h|⟨i,hi,h⟩|⟨i,hi,h⟩)|h|h)
  ·exact .inl h
  ·exact .inr (.inl (N i hi k h))
  ·rcases h with h|h <;> cases h
  ·exact .inr (.inr (.inl h))
  ·exact .inr (.inr (.inr h))
def zX' (s a b d:Nat) (rv:Value):Array Value:= #[D' s, .int .i64 a, .int .i64 b, .int .i64 d,
 .slice none 0 0, .map none, .slice none 0 0, .map none, .slice none 0 0, .map none, .slice none 0 0, .map none, .slice none 0 0, .map none, .slice none 0 0, .map none, .slice none 0 0, .map none, .slice none 0 0, .map none, .slice none 0 0, .map none,
 .slice none 0 0, .int .i64 0, .bool false, .bool false,rv]
variable{Q:Nat -> Nat}{aL:Mq.Ld}
theorem yv' (h:Wa p u w a Q aL) (hs:Vf u a q P c f) (hl:P.dk.bytes.length=1664) (hn:∀k,StU a q c f k->k≠w)
  (J:O=u.setCell ⟨w,26,none⟩ G) (M:Qi (O.alloc aQ) 183 2 G 3 (cm' w)):
  ∃H,Je (O.alloc aQ) w Q 0 false false aL.free (eN' aL) P H/\(∀k,PaU w H k->k=w\/p.heap.size<=k\/StU a q c f k\/G.ownBlock=some k):=by
 obtain⟨arr,nv,mv,fv,K,Z,N⟩:=h;subst J;have V:=Q' u w 26 G;have I:Below (u.setCell ⟨w,26,none⟩ G).heap.size (u.setCell ⟨w,26,none⟩ G) ((u.setCell ⟨w,26,none⟩ G).alloc aQ):=(z11 _ _).alloc (z13 _) _;have F:Far (fun k=>k=w) u ((u.setCell ⟨w,26,none⟩ G).alloc aQ):=V.trans (C' (E:=fun _=>False) I) (fun _ _ h=>h.elim);have z:∀j,j≠26->(arr.setIfInBounds 26 G)[j]? =arr[j]? :=fun j hj=>z16 (fun e=>hj e.symm);refine⟨⟨arr.setIfInBounds 26 G,a,q,nv,mv,fv,G,c,f⟩,⟨⟨?_,by simpa using K.sz,?_,?_,?_,?_,?_,?_,?_,?_,?_,?_,?_,K.apf,K.aps⟩,?_,M,hl⟩,?_⟩
 ·exact(I.block w (by simp;exact z14 K.blk)).trans (aa' K.blk)
 ·rw[z _ (by omega)];exact K.a0
 ·intro i hi;rw[z _ (by omega)];exact K.ag i hi
 ·intro i hi;rw[z _ (by omega)];exact K.an i hi
 ·intro i hi;rw[z _ (by omega)];exact K.am i hi
 ·rw[z _ (by omega)];exact K.af
 ·rw[z _ (by omega)];exact K.at'
 ·rw[z _ (by omega)];exact K.aw
 ·rw[z _ (by omega)];exact K.ae
 ·have:=K.sz;simp[this]
 ·exact K.fr.far F (fun Q Y e=>K.fr.ne K.blk (by decide) (by rw[Y,e]))
 ·intro i hi;exact(K.shs i hi).far F (fun k hk e=>(K.shs i hi).ne K.blk (by decide) (by rw[<-e];exact hk))
 ·exact hs.far F (fun k hk e=>hn k hk e)
 ·rintro k (h|h|h)
  ·rcases N k h with h|h
   ·exact .inl h
   ·exact .inr (.inl h)
  ·exact .inr (.inr (.inl h))
  ·exact .inr (.inr (.inr h))
variable{F:Mq.Hd}
theorem ro' (H:World) (v:Value) (L:List UInt8) (aB:Qn H v L) (I:L.length=1664) (ah:Mq.openSt L=some (F,w,aA)):
  Calls prog 64 #[v] H fun r w'=>Mq.Vy F.num aA=none/\r= .returned (.tuple #[.pointer none, .int .i64 2])/\Below H.heap.size H w'\/
   ∃l p c,Mq.Vy F.num aA=some l/\r= .returned (.tuple #[D' p, .int .i64 0])/\Je w' p F.num 0 false false l.free (eN' l) (cO' L F w) c/\Below H.heap.size H w'/\∀k,PaU p c k->H.heap.size<=k:=by
 have O:=gE' H v L 26 aB (by omega) (by omega) (by omega) ah;rw[nF']at O;obtain⟨ai,aj⟩:=Mq.Vg ah;have aC:=tP' aj;have aD:aA.length=24:=by have:=(Mq.Xk _ _ aj).1;rw[this,I]
 obtain⟨_,aE,aF,_⟩:=Mq.Vs ai;have aG:=Mq.Vo aE;rw[<-aF]at aG;have aH:∀i,i < 3->F.num i<=2147483647:=fun i _=>by
  unfold Mq.Hd.num;split
  ·omega
  ·split <;> omega
 have aI:(cO' L F w).dk.bytes.length=1664:=by have:=(Mq.Yr ai (m:=26) (by omega) (by omega)).len;exact this
 obtain⟨bw,cap,rfl,bd,be,_⟩:=aB;obtain⟨n,hn⟩:=exq (L.length);rw[<-hn]at I bd be O ⊢;subst I;generalize cO' L F w=st at *;have aJ:F.num 0=F.a:=rfl;have aK:F.num 1=F.b:=rfl;have aL:F.num 2=F.d:=rfl;rw[<-aJ,<-aK,<-aL]at O;generalize F.num=Q at *;have aM:=m' O;have Y:=m' (z12 aC (z12 aD (z12 aI aH)));clear hn ah ai aj aE aF aG O aC aD aI aJ aK aL aH;obtain⟨res,Z⟩:=exq (Mq.Vy Q aA);rw[<-Z];obtain⟨aN,ak⟩:=exq (Q 0);obtain⟨aO,ao⟩:=exq (Q 1);obtain⟨nd,ap⟩:=exq (Q 2);rw[<-ak,<-ao,<-ap]at aM;have aq:=m' (z12 ak (z12 ao ap));clear ak ao ap;unfold D' at *;go_enter func64,ntmps64;go_upto_region 7 with (go_at_call 102;refine(d' aM).mono ?_;rintro r y ⟨s,dp,lv,bf,rv,rfl,aP,aQ,V,hb⟩;obtain⟨bz,bg,rfl,_,_,aR⟩:=(Qi.Qv (ak' V (z54 _))).shape);obtain⟨bh,bi,rfl,_⟩:=aR (by omega);have bj:bi=0:=by
  rcases V with ⟨_,⟨F,_⟩|⟨g',bA,bB,F,_⟩⟩
  ·cases F
  ·injection F with F;injection F with F;injection F
 subst bj;clear aR;obtain⟨z,au⟩:=exq (y.heap.size);have aa:=m' au;rw[<-au];have bk:H.heap.size<=z:=by have:=hb.size;omega
 clear au;refine G' (fun x=>x.heap[z]? =some (.cells #[.int .i64 aN, .int .i64 aO, .int .i64 nd, .slice (some ⟨bh,0,none⟩) 24 bg] 187 (0,0))/\x.heap[z+1]? =some (.cells (zX' s aN aO nd (.slice none 0 0)) 151 (0,0))/\Below z y x) ?_ ?_
 ·rw[d' aa];exact cL' _ _ _
 rintro x ⟨h5,ab,ac⟩;have bC:=z14 ab;have aS:=y' (i:=3) h5;simp at aS;have aT:=aC' (ak' V (z54 _)) (fun g bl=>by have:=(z15 V g bl).2;exact ac.block g (by rw[d' aa];exact this));have av:=m' (aP.far (C' (E:=fun _=>False) (by rw[<-d' aa];exact ac)) (fun _ _ F=>F));have bm:=m' aQ;have ax:=m' (hb.trans (ac.mono bk));have aU:=m' ab;have aV:Wa x x (z+1) s Q Mq.ld0:=xh' ab (by rw[<-(d' aq).1,<-(d' aq).2.1,<-(d' aq).2.2];rfl);have ay:=ti' aV aT (d' Y).2.1 (by omega) (d' Y).1 (d' Y).2.2.2;rw[<-Z]at ay;have ad:=m' ay;have bD:=m' Z;clear aP aQ V aT hb ac h5 ab aa aV ay Z;have aW:¬StU s dp lv bf (z+1):=by
  rintro(F|F)
  ·have h1:=(d' av).blk;rw[<-F,d' aU]at h1;injection h1 with h1;injection h1 with _ h1 _;exact absurd h1 (by decide)
  ·exact ey' (d' av).dk (d' aU) (by decide) (by decide) (by decide) F
 unfold D' at ad;cases res with
 |none=>
  go_wp2_with (go_at_call 103;refine(d' ad).mono ?_;rintro r G ⟨rfl,hF,_⟩;replace hF:=m' hF)
  go_ret2
  have J:Far (fun k=>k=z+1) H G:=(C' (E:=fun k=>k=z+1) (d' ax)).trans (d' hF) (fun _ _ F=>F);first|exact .inl ⟨rfl,rfl,J.below (z13 _) (fun k hk F=>by omega)⟩|exact⟨rfl,J.below (z13 _) (fun k hk F=>by omega)⟩|exact .inl ⟨rfl,J.below (z13 _) (fun k hk F=>by omega)⟩
 |some l=>
  go_upto_region 9 with (go_at_call 103;refine(d' ad).mono ?_;rintro r G ⟨rfl,hF,hl⟩;have I:=hl l rfl;clear hl)
  have aX:=(d' av).far hF (fun k hk e=>aW (by rw[<-e];exact hk));have J:Far (fun k=>k=z+1) H G:=(C' (E:=fun k=>k=z+1) (d' ax)).trans hF (fun _ _ F=>F);have M:Below H.heap.size H G:=J.below (z13 _) (fun k hk F=>by omega);have bn:=m' (z12 I (z12 aX M));obtain⟨arr,nv,mv,fv,K,_,_⟩:=I;have aY:z+1 < G.heap.size:=z14 K.blk;have aZ:G.cell? ⟨z+1,26,none⟩=some (.slice none 0 0):=by rw[y' K.blk];exact K.ar
  have bE:∀o,(G.alloc o).cell? ⟨z+1,26,none⟩=some (.slice none 0 0):=fun o=>(z85 G _ ⟨z+1,26,none⟩ aY).trans aZ;have bF:∀o,(G.alloc o).frozen? ⟨z+1,26,none⟩=false:=fun o=>H' (i:=26) ((hao _ _ aY).trans K.blk);have bG:¬z+1=G.heap.size:=by omega
  clear aZ K hF J M aX aS ad;go_wp2;go_ret2;obtain⟨I,bo,M⟩:=d' bn;obtain⟨R,ba⟩:=exq (Obj.cells (cm' (z+1)).toArray 183 (0,0));obtain⟨bb,az⟩:=exq (G.setCell ⟨z+1,26,none⟩ (.slice (some ⟨G.heap.size,0,none⟩) 3 3));have bp:bb.heap.size=G.heap.size:=by rw[az,z79]
  have bq:Qi (bb.alloc R) 183 2 (.slice (some ⟨G.heap.size,0,none⟩) 3 3) 3 (cm' (z+1)):=by refine⟨by simp[cm'], .inr ⟨G.heap.size,0,3,(cm' (z+1)).toArray,rfl,?_,by omega,by unfold maxLen;omega,by simp[cm'],by simp[cm']⟩⟩;rw[<-bp,z19,ba]
  obtain⟨c,bc,br⟩:=yv' I bo (d' Y).2.2.1 (fun k hk e=>aW (by rw[<-e];exact hk)) az bq;have bt:R=Obj.cells #[.int .i64 2, .func (.func 104) #[.pointer (some ⟨z+1,0,none⟩)] #[], .int .i64 4, .func (.func 105) #[.pointer (some ⟨z+1,0,none⟩)] #[], .int .i64 5, .func (.func 106) #[.pointer (some ⟨z+1,0,none⟩)] #[]] 183 (0,0):=by rw[ba];rfl
  subst bt;subst az;have bH:=(d' ax).size;have bu:∀z3,z3=((G.setCell ⟨z+1,26,none⟩ (.slice (some ⟨G.heap.size,0,none⟩) 3 3)).alloc (.cells #[.int .i64 2, .func (.func 104) #[.pointer (some ⟨z+1,0,none⟩)] #[], .int .i64 4, .func (.func 105) #[.pointer (some ⟨z+1,0,none⟩)] #[], .int .i64 5, .func (.func 106) #[.pointer (some ⟨z+1,0,none⟩)] #[]] 183 (0,0)))->Below H.heap.size H z3/\∀k,PaU (z+1) c k->H.heap.size<=k:=by
   rintro _ rfl;refine⟨(M.setCell (p:=⟨z+1,26,none⟩) (by show H.heap.size<=z+1;omega) _).alloc (by rw[z79];exact M.size) _,fun k hk=>?_⟩;rcases br k hk with F|F|F|F
   ·omega
   ·omega
   ·exact(d' bm) k F
   ·have h2:some G.heap.size=some k:=F;injection h2 with h2;have:=M.size;omega
  obtain⟨f1,f2⟩:=bu _ rfl;first|exact .inr ⟨l,z+1,c,rfl,rfl,bc,f1,f2⟩|exact⟨l,z+1,c,rfl,rfl,bc,f1,f2⟩
variable{cB:Mq.Dk}
theorem mP' (z:Yd p w cB c f) (O:Int):
  Calls prog 144 #[D' w, .int .u64 O] p fun r w'=>∃v',r= .returned v'/\Qt p.heap.size w' v' cB.bytes/\Below p.heap.size p w':=by
 obtain⟨Y,cap,G,_⟩:=(Qi.Qv z.row).shape;obtain⟨Z,aa,H,_⟩:=z.un.shape;have Q:=z.len;have I:Qn p c cB.bytes:=(show Qt 0 p c cB.bytes from z.row).at
 have J:=m' (fT' p c cB.bytes I (by omega) Q.2);have c0:p.cell? ⟨w,0,none⟩=some c:=y' (i:=0) z.blk;have c1:=y' (i:=1) z.blk;simp at c1;rw[H]at c1;have V:=z14 z.blk;rw[G]at c0 J;clear I G H z;unfold D';go_enter func144,ntmps144;go_upto_region 2 with (go_at_call 192;refine(d' J).mono ?_;rintro r y ⟨v',rfl,F,hb⟩;obtain⟨ab,ac,rfl,_⟩:=F.shape);have c1:=(hb.cell (p:=⟨w,1,none⟩) V).trans c1;have M:=m' (z12 F hb);clear F hb c0;go_wp2;go_loopw[6,7,18] (fun _ _ i wr=>i= .int .i64 0/\wr=y) (fun _ _ _ _=>0)
 case atStart=>exact⟨rfl,rfl⟩
 case round=>obtain⟨rfl,rfl⟩:=hrel;go_wp2;go_ret;exact⟨_,rfl,(d' M).1,(d' M).2⟩
theorem ga' (z:Vf p w a P c f) (G:Int):
  Calls prog 99 #[D' w, .int .u64 G] p fun r w'=>∃v',r= .returned v'/\Qt p.heap.size w' v' P.dk.bytes/\Below p.heap.size p w':=by
 have c0:p.cell? ⟨w,0,none⟩=some (D' a):=y' (i:=0) z.blk;have H:=m' (mP' z.dk G);clear z;unfold D' at *;go_enter func99,ntmps99;go_wp2_with (go_at_call 144;refine(d' H).mono ?_;rintro r y ⟨v',rfl,F,hb⟩;replace F:=m' F;replace hb:=m' hb);go_ret;exact⟨_,rfl,d' F,d' hb⟩
variable{R:Nat -> List (Nat×Value)}{L:Sv}
theorem mQ' (z:Jt p w a S R P L) (G:Int):
  Calls prog 59 #[D' w, .int .u64 G] p fun r w'=>∃v',r= .returned v'/\Qt p.heap.size w' v' P.dk.bytes/\Below p.heap.size p w':=by
 have c0:p.cell? ⟨w,0,none⟩=some (D' L.s):=by rw[y' z.ks.blk,z.ks.a0]
 have H:=m' (ga' z.stt G);clear z;unfold D' at *;go_enter func59,ntmps59;go_wp2_with (go_at_call 99;refine(d' H).mono ?_;rintro r y ⟨v',rfl,F,hb⟩;replace F:=m' F;replace hb:=m' hb);go_ret;exact⟨_,rfl,d' F,d' hb⟩
variable{bK cF:Bool}{k:List Nat}{aZ:Av}
theorem rp' (z:Je p w Q a bK cF k R P aZ) (G:Int):
  Calls prog 58 #[D' w, .int .u64 G] p fun r w'=>∃v',r= .returned v'/\Qt p.heap.size w' v' P.dk.bytes/\Below p.heap.size p w':=by
 have c0:p.cell? ⟨w,0,none⟩=some (D' aZ.s):=by rw[y' z.ks.blk,z.ks.a0]
 have H:=m' (ga' z.stt G);clear z;unfold D' at *;go_enter func58,ntmps58;go_wp2_with (go_at_call 99;refine(d' H).mono ?_;rintro r y ⟨v',rfl,F,hb⟩;replace F:=m' F;replace hb:=m' hb);go_ret;exact⟨_,rfl,d' F,d' hb⟩
theorem vi' (hb:p.heap[w]? =some (.cells #[D' a] 93 (0,0))) (F:Jt p a q S R P L) (G:Int):
  Calls prog 30 #[D' w, .int .u64 G] p fun r w'=>∃v',r= .returned v'/\Qt p.heap.size w' v' P.dk.bytes/\Below p.heap.size p w':=by
 have c0:p.cell? ⟨w,0,none⟩=some (D' a):=y' (i:=0) hb;have H:=m' (mQ' F G);clear F hb;unfold D' at *;go_enter func30,ntmps30;go_wp2_with (go_at_call 59;refine(d' H).mono ?_;rintro r y ⟨v',rfl,z,hb⟩;replace z:=m' z;replace hb:=m' hb);go_ret;exact⟨_,rfl,d' z,d' hb⟩
theorem nG' (hb:p.heap[w]? =some (.cells #[D' a] 90 (0,0))) (F:Je p a Q q bK cF k R P aZ) (G:Int):
  Calls prog 29 #[D' w, .int .u64 G] p fun r w'=>∃v',r= .returned v'/\Qt p.heap.size w' v' P.dk.bytes/\Below p.heap.size p w':=by
 have c0:p.cell? ⟨w,0,none⟩=some (D' a):=y' (i:=0) hb;have H:=m' (rp' F G);clear F hb;unfold D' at *;go_enter func29,ntmps29;go_wp2_with (go_at_call 58;refine(d' H).mono ?_;rintro r y ⟨v',rfl,z,hb⟩;replace z:=m' z;replace hb:=m' hb);go_ret;exact⟨_,rfl,d' z,d' hb⟩
theorem ja' (z:Jt p w a S R P L) (hs:P.dk.dead=false) (bs:Value) (l:List UInt8) (H:Qn p bs l) (I:Qb.reads l=false):
  Calls prog 56 #[D' w,bs] p fun r J=>r= .returned (.tuple #[.slice none 0 0, .int .i64 1])/\Below p.heap.size p J:=by
 have c0:p.cell? ⟨w,0,none⟩=some (D' L.s):=by rw[y' z.ks.blk,z.ks.a0]
 have G:=aL' z.stt;rw[hs]at G;have M:=m' G;have F:=eV' bs l p H;rw[I]at F;simp only[Bool.false_eq_true,if_false,bI']at F;have O:=m' F;clear z G F;unfold D' at *;go_enter func56,ntmps56;go_wp2_with (first|(go_at_call 86;refine(d' M).mono ?_;rintro r y ⟨rfl,rfl⟩)|(go_at_call 54;refine(d' O).mono ?_;rintro r y ⟨rfl,hb⟩;replace hb:=m' hb));go_ret2;exact⟨rfl,(d' hb).alloc (d' hb).size _⟩
section
variable {w:World} {p:Nat} {g:Nat->Nat} {tk:Nat} {wel fen:Bool} {free:List Nat} {sh:Nat->List (Nat×Value)} {st:Mq.Stv} {c:Av} {a:Mq.Ag} {pl:Nat->List Nat}
end
theorem rq' (M:Mq.openSt m=some (F,w,aA)) (hl:Mq.ldAll F.num aA 0 Mq.ld0=some aL) (hk:∀i,i < 3->Mq.okP (aL.sh i) (F.num i)=true) (O:m.length=1664):
  Js (Mq.Zw F.o F.num aL) (F.o+1) F.num aL.free (eN' aL) (Mq.plOf aL):=by
 obtain⟨h1,P,h3⟩:=Mq.Yy M hl hk O;have H:∀i,i < 3->((Mq.Zw F.o F.num aL).fl i).base=F.num i:=fun i hi=>by unfold Mq.Zw;simp only;rw[if_pos hi]
 have I:∀i,i < 3->((Mq.Zw F.o F.num aL).fl i).kept=(aL.sh i).map fun e=>(e.2.1,0):=fun i hi=>by unfold Mq.Zw;simp only;rw[if_pos hi]
 have Q:∀i,i < 3->((Mq.Zw F.o F.num aL).fl i).held=[]:=fun i hi=>by unfold Mq.Zw;simp only;rw[if_pos hi]
 have J:∀i,eN' aL (i * 3+1)=[]:=fun i=>by unfold eN';rw[if_neg (by omega)]
 have z:∀i,eN' aL (i * 3+2)=[]:=fun i=>by unfold eN';rw[if_neg (by omega)]
 refine⟨rfl,fun i hi=>(H i hi).symm,P.pn,fun i hi=>?_,fun i hi n=>?_,fun i hi=>?_,fun i hi n=>?_,fun i hi=>?_,fun i hi=>?_,P.nd,P.lt,P.sum⟩
 ·rw[ea',nE',H i hi,I i hi,h3 i hi]
 ·rw[J];unfold dd';rw[I i hi,z70];show none= _;split
  ·rfl
  ·cases (aL.sh i)[n - ((Mq.Zw F.o F.num aL).fl i).base - 1]? with
   |none=>rfl
   |some e=>rfl
 ·rw[J];exact fun x G=>by cases G
 ·rw[z,Q i hi];rfl
 ·rw[z];exact fun x G=>by cases G
 ·rw[z];simp
def ir' (op ct n:Nat) (w:World) (v:Nat) (a:Mq.Ag) (U:Nat->Prop):Prop:=
 ∃p g free sh z st c,w.heap[v]? =some (.cells #[D' p] 90 (0,0))/\Je w p g a.Qf a.Qd a.fenced free sh st c/\Yv op ct n st a free z/\Js a st.Qe g free sh z/\U=fun k=>k=v\/PaU p c k
section
variable {op ct n N:Nat} {w w':World} {v:Nat} {a:Mq.Ag} {U:Nat->Prop}
theorem yw' (h:ir' op ct n w v a U):∀k,U k->k < w.heap.size:=by
 obtain⟨p,g,free,sh,F,st,c,hb,z,_,_,rfl⟩:=h;rintro k (rfl|hk)
 ·exact z14 hb
 ·exact z.lt k hk
theorem xj' (h:ir' op ct n w v a U) (z:Far D w w') (F:∀k,U k->¬D k):ir' op ct n w' v a U:=by
 obtain⟨p,g,free,sh,G,st,c,hb,H,h1,h2,rfl⟩:=h;exact⟨p,g,free,sh,G,st,c,z.blk hb (F v (.inl rfl)),H.far z (fun k hk=>F k (.inr hk)),h1,h2,rfl⟩
theorem lJ' (h:ir' op ct 0 w v a U):zQ' w v a U:=by
 obtain⟨p,g,free,sh,z,st,c,hb,F,h1,h2,rfl⟩:=h;exact⟨p,g,free,sh,z,st,c,hb,F,h1.sound,h2,rfl⟩
theorem Aw' {p:Nat} {c:Av} {z:World} {a':Mq.Ag} (hb:w.heap[v]? =some (.cells #[D' p] 90 (0,0))) (G:¬PaU p c v) (h:yV' op ct n w z p a' c):
  ∃U',ir' op ct n z v a' U'/\Far (fun k=>k=v\/PaU p c k) w z/\∀k,U' k->(k=v\/PaU p c k)\/w.heap.size<=k:=by
 obtain⟨g,free,sh,H,st,⟨I,K,F,J,s1,O⟩,hs,M⟩:=h;refine⟨_,⟨p,g,free,sh,H,st,I,F.blk hb G,K,hs,M,rfl⟩,F.mono (fun _ _ h=> .inr h),?_⟩;rintro k (rfl|hk)
 ·exact .inl (.inl rfl)
 ·exact(J k hk).imp .inr id
theorem As' (h:ir' op ct n w v a U):∃ (L:List UInt8) (c2 hd:Nat) (free:List Nat) (z:Nat->List Nat),Mq.Xp L op c2 hd a free z/\Mq.Xn a free z/\∀x,Below w.heap.size w x->∀F:Int,
  Calls prog 29 #[D' v, .int .u64 F] x fun r y=>∃v',r= .returned v'/\Qt x.heap.size y v' L/\Below x.heap.size x y:=by
 obtain⟨p,g,free,sh,z,st,c,hb,H,hs,I,rfl⟩:=h;refine⟨st.dk.bytes,st.count,st.head,free,z,by rw[<-hs.op];exact hs.dk,I.places,fun x G F=>?_⟩;exact nG' ((G.block _ (z14 hb)).trans hb) (H.far (E:=fun _=>False) (C' G) (fun _ _ e=>e)) F
end
theorem rr' (h1:Mq.ldAll Q aA 0 Mq.ld0=some aL) (h2:∀i,i < 3->Mq.okP (aL.sh i) (Q i)=true):Mq.Vy Q aA=some aL:=by
 unfold Mq.Vy;rw[h1];simp only
 rw[if_pos ⟨h2 0 (by omega),h2 1 (by omega),h2 2 (by omega)⟩]
theorem nH' (bs:Value) (L:List UInt8) (aa:Qn p bs L) (J:L.length=1664) (M:Mq.openSt L=some (F,w,aA)) (hl:Mq.ldAll F.num aA 0 Mq.ld0=some aL) (hk:∀i,i < 3->Mq.okP (aL.sh i) (F.num i)=true):
  Calls prog 37 #[bs] p fun r w'=>
   ∃v U,r= .returned (.tuple #[D' v, .int .i64 0])/\ir' (F.o+1) 1 0 w' v (Mq.Zw F.o F.num aL) U/\Below p.heap.size p w'/\∀k,U k->p.heap.size<=k:=by
 have H:Hid (Calls prog 64 #[bs] p fun r w'=>∃z c,r= .returned (.tuple #[D' z, .int .i64 0])/\Je w' z F.num 0 false false aL.free (eN' aL) (cO' L F w) c/\Below p.heap.size p w'/\∀k,PaU z c k->p.heap.size<=k):=by
  refine(ro' p bs L aa J M).mono ?_;rintro r y (⟨h1,_⟩|⟨ac,z,c,O,rfl,k1,k2,k3⟩)
  ·rw[rr' hl hk]at h1;cases h1
  ·rw[rr' hl hk]at O;injection O with O;subst O;exact⟨z,c,rfl,k1,k2,k3⟩
 have I:Hid (Yv (F.o+1) 1 0 (cO' L F w) (Mq.Zw F.o F.num aL) aL.free (Mq.plOf aL)):=⟨rfl,rfl,rfl,z13 _,(Mq.Yy M hl hk J).1⟩;have G:Hid (Js (Mq.Zw F.o F.num aL) (cO' L F w).Qe F.num aL.free (eN' aL) (Mq.plOf aL)):=rq' M hl hk J;have Q:(Mq.Zw F.o F.num aL).Qf=0:=rfl;have V:(Mq.Zw F.o F.num aL).Qd=false:=rfl;have Y:(Mq.Zw F.o F.num aL).fenced=false:=rfl;clear aa M J hl hk;generalize Mq.Zw F.o F.num aL=a at *;generalize cO' L F w=st at H I G;generalize F.o+1=op1 at I ⊢;generalize F.num=ad at H G;generalize eN' aL=ah at H G;generalize Mq.plOf aL=ai at I G;generalize aL.free=lf at H I G;have ab:=m' (z12 Q (z12 V Y));clear Q V Y;unfold D' at *;go_enter func37,ntmps37;go_wp2_with (go_at_call 64;refine(d' H).mono ?_;rintro r y ⟨z,c,rfl,K,hb,Z⟩;replace K:=m' K;replace hb:=m' hb;replace Z:=m' Z);go_ret2;have hb:=d' hb;obtain⟨Q,V,Y⟩:=d' ab;refine⟨y.heap.size,_,rfl,⟨z,_,_,_,_,st,c,z19 _ _,?_,d' I,d' G,rfl⟩,hb.alloc hb.size _,?_⟩
 ·rw[Q,V,Y];exact(d' K).below ((z11 _ _).alloc (z13 _) _)
 ·rintro k (rfl|hk)
  ·exact hb.size
  ·exact(d' Z) k hk
variable{y:Mq.Ag}{V:Nat -> List Nat}
theorem zY' (bs:Value) (L:List UInt8) (H:Qn p bs L) (D:Mq.Xp L w a q y k V) (P:Mq.Xn y k V) (I:y.Qa=w) (J:w<=1073741824) (M:∀i,i < 3->(y.fl i).base+(y.fl i).kept.length<=1073741824):
  Calls prog 37 #[bs] p fun r w'=>∃v U,r= .returned (.tuple #[D' v, .int .i64 0])/\ir' (w+1) 1 0 w' v (Mq.Yj y) U/\Below p.heap.size p w'/\∀F,U F->p.heap.size<=F:=by
 obtain⟨z,at',rs,l,O,Q,Y,G⟩:=Mq.agLoad_some (D.loads P I J M);have Z:z.o=w:=by have:=congrArg Mq.Ag.Qa G;have h1:(Mq.Yj y).Qa=y.Qa+1:=rfl;have h2:(Mq.Zw z.o z.num l).Qa=z.o+1:=rfl;omega
 subst Z;rw[G];exact nH' bs L H D.ok.len O Q Y
theorem yx':Mq.ldAll Mq.hd0.num ((List.range (26 - 2)).map fun _=>Mq.rc0) 0 Mq.ld0=some ⟨List.range 24,fun _=>[]⟩:=by rfl
theorem yy':Mq.Zw Mq.hd0.o Mq.hd0.num ⟨List.range 24,fun _=>[]⟩={Qa:=1,Qf:=0,Qd:=false,fenced:=false,fl:=fun _=>{base:=0,kept:=[],held:=[]}}:=by
 unfold Mq.Zw;congr 1;funext i;split
 ·have:Mq.hd0.num i=0:=by
   unfold Mq.Hd.num;repeat' split
   all_goals rfl
  rw[this];rfl
 ·rfl
theorem rt' (bs:Value) (z:Qn p bs (List.replicate 1664 0)):
  Calls prog 37 #[bs] p fun r w'=>
   ∃v U,r= .returned (.tuple #[D' v, .int .i64 0])/\ir' 1 1 0 w' v {Qa:=1,Qf:=0,Qd:=false,fenced:=false,fl:=fun _=>{base:=0,kept:=[],held:=[]}} U/\Below p.heap.size p w'/\∀k,U k->p.heap.size<=k:=by
 have F:=Mq.Yx 26 (by omega);rw[<-yy'];exact nH' bs _ z (by rw[z55]) F yx' (fun i _=>by
  have:Mq.hd0.num i=0:=by
   unfold Mq.Hd.num;repeat' split
   all_goals rfl
  show Mq.okP [] (Mq.hd0.num i)=true;rw[this];rfl)
end Go.Proofs.YtamafdcnbcoegaaGreat
