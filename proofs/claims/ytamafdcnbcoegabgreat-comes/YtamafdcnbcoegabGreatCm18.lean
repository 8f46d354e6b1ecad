/-
  Part 18 of a proof: K28, K29, K30, K31, K32, K33, Q6, OP14, N1, N2, SF1.
-/
import Derived.Test.YtamafdcnbcoegabGreatCm17
set_option maxRecDepth 100000
set_option maxHeartbeats 40000000
namespace Go.Proofs.YtamafdcnbcoegabGreat
open Go.RowKit
theorem gK' {w:World} {p:Nat} {R:World->World->Prop} (ao:∀ {u v r:World},R v r->Below u.heap.size u v->R u r) (O k e s q:Int) (b:ByteArray) (k' D s' F:Int) (G:ByteArray) (Z:Wire.proper k' D s' F G=true)
  (aa:∀y,Below w.heap.size w y->Calls Tryz.prog 87 #[A' p, .agg #[.int .i64 k, .int .i64 e, .int .i64 s, .int .i64 q, .string b]] y fun H r=>H= .returned (.tuple #[.agg #[.int .i64 k', .int .i64 D, .int .i64 s', .int .i64 F, .string G], .int .i64 0])/\R y r):
  Calls Tryz.prog 70 #[.agg #[.int .i64 O, .func (.func 87) #[A' p] #[]], .agg #[.int .i64 k, .int .i64 e, .int .i64 s, .int .i64 q, .string b]] w fun H r=>
   ∃lv fs x,H= .returned (.tuple #[lv, .int .i64 0])/\R w x/\Below x.heap.size x r/\Q' x.heap.size r lv fs [⟨(Wire.bytes k' D s' F G.data.toList).toArray⟩] (fun _=>False):=by
 have ap:=fun y=>y' (dM' k' D s' F G y Z);have ab:=fun y aq=>y' (aa y aq);have ac:=y' (ca' w (.cells #[.int .i64 O, .func (.func 87) #[A' p] #[]] 130) (.cells #[.int .i64 k, .int .i64 e, .int .i64 s, .int .i64 q, .string b] 63));clear aa Z;unfold A' at *;go_enter Tryz.func70,Tryz.ntmps70;go_upto_region 1 with fail;refine H' (fun x=>x.heap[w.heap.size]? =some (.cells #[.int .i64 O, .func (.func 87) #[.pointer (some ⟨p,0,none⟩)] #[]] 130 (0,0))/\x.heap[w.heap.size+1]? =some (.cells #[.int .i64 k, .int .i64 e, .int .i64 s, .int .i64 q, .string b] 63 (0,0))/\Below w.heap.size w x) (i' ac) ?_;clear ac;rintro x ⟨h0,h1,Q⟩;have ad:=t' (i:=1) h0;have z0:=t' (i:=0) h1;have I:=t' (i:=1) h1;have J:=t' (i:=2) h1;have z3:=t' (i:=3) h1;have z4:=t' (i:=4) h1;simp at ad z0 I J z3 z4;have ah:=y' (i' (ab x Q));have au:=y' Q;clear h0 h1 Q ab;go_upto_region 2 with (go_at_call 87;refine(i' ah).mono ?_;rintro H y ⟨rfl,ai⟩);obtain⟨U,V⟩:∃U,U=y.heap.size:=⟨_,rfl⟩;have av:=y' V;rw[<-V];have ax:=y' (ao ai (i' au));clear ai V;refine H' (fun u=>u.heap[U]? =some (.cells #[.int .i64 k', .int .i64 D, .int .i64 s', .int .i64 F, .string G] 63 (0,0))/\Below y.heap.size y u) ?_ ?_
 ·rw[i' av];exact⟨heap_alloc_new _ _,(Below.refl _ _).alloc (Nat.le_refl _) _⟩
 clear ad z0 I J z3 z4 ah;rintro u ⟨z,aj⟩;have z0:=t' (i:=0) z;have I:=t' (i:=1) z;have J:=t' (i:=2) z;have z3:=t' (i:=3) z;have z4:=t' (i:=4) z;simp at z0 I J z3 z4;have ak:=y' aj;clear z aj;go_wp2_with (go_at_call 67;refine(i' (ap _)).mono ?_;rintro H v ⟨aB,rfl,M,X⟩;obtain⟨aC,cap,rfl,_⟩:=M.shape;replace M:=y' M;replace X:=y' X);go_ret2;have ay:=(i' X);have az:=i' M;have aA:=(i' ak).size;have Y:Below y.heap.size y v:=(i' ak).trans (ay.mono aA);refine⟨_,_,y,rfl,i' ax,Y.alloc Y.size _,eD' (World.ownsRow.alloc (az.mono (by omega)) _) Y.size (heap_alloc_new _ _)⟩
theorem gL' {w:World} {p:Nat} {R:World->World->Prop} (ao:∀ {u v r:World},R v r->Below u.heap.size u v->R u r) (O k e s q:Int) (b:ByteArray) (k' D s' F:Int) (G:ByteArray) (Z:Wire.proper k' D s' F G=true)
  (aa:∀y,Below w.heap.size w y->Calls Tryz.prog 88 #[A' p, .agg #[.int .i64 k, .int .i64 e, .int .i64 s, .int .i64 q, .string b]] y fun H r=>H= .returned (.tuple #[.agg #[.int .i64 k', .int .i64 D, .int .i64 s', .int .i64 F, .string G], .int .i64 0])/\R y r):
  Calls Tryz.prog 70 #[.agg #[.int .i64 O, .func (.func 88) #[A' p] #[]], .agg #[.int .i64 k, .int .i64 e, .int .i64 s, .int .i64 q, .string b]] w fun H r=>
   ∃lv fs x,H= .returned (.tuple #[lv, .int .i64 0])/\R w x/\Below x.heap.size x r/\Q' x.heap.size r lv fs [⟨(Wire.bytes k' D s' F G.data.toList).toArray⟩] (fun _=>False):=by
 have ap:=fun y=>y' (dM' k' D s' F G y Z);have ab:=fun y aq=>y' (aa y aq);have ac:=y' (ca' w (.cells #[.int .i64 O, .func (.func 88) #[A' p] #[]] 130) (.cells #[.int .i64 k, .int .i64 e, .int .i64 s, .int .i64 q, .string b] 63));clear aa Z;unfold A' at *;go_enter Tryz.func70,Tryz.ntmps70;go_upto_region 1 with fail;refine H' (fun x=>x.heap[w.heap.size]? =some (.cells #[.int .i64 O, .func (.func 88) #[.pointer (some ⟨p,0,none⟩)] #[]] 130 (0,0))/\x.heap[w.heap.size+1]? =some (.cells #[.int .i64 k, .int .i64 e, .int .i64 s, .int .i64 q, .string b] 63 (0,0))/\Below w.heap.size w x) (i' ac) ?_;clear ac;rintro x ⟨h0,h1,Q⟩;have ad:=t' (i:=1) h0;have z0:=t' (i:=0) h1;have I:=t' (i:=1) h1;have J:=t' (i:=2) h1;have z3:=t' (i:=3) h1;have z4:=t' (i:=4) h1;simp at ad z0 I J z3 z4;have ah:=y' (i' (ab x Q));have au:=y' Q;clear h0 h1 Q ab;go_upto_region 2 with (go_at_call 88;refine(i' ah).mono ?_;rintro H y ⟨rfl,ai⟩);obtain⟨U,V⟩:∃U,U=y.heap.size:=⟨_,rfl⟩;have av:=y' V;rw[<-V];have ax:=y' (ao ai (i' au));clear ai V;refine H' (fun u=>u.heap[U]? =some (.cells #[.int .i64 k', .int .i64 D, .int .i64 s', .int .i64 F, .string G] 63 (0,0))/\Below y.heap.size y u) ?_ ?_
 ·rw[i' av];exact⟨heap_alloc_new _ _,(Below.refl _ _).alloc (Nat.le_refl _) _⟩
 clear ad z0 I J z3 z4 ah;rintro u ⟨z,aj⟩;have z0:=t' (i:=0) z;have I:=t' (i:=1) z;have J:=t' (i:=2) z;have z3:=t' (i:=3) z;have z4:=t' (i:=4) z;simp at z0 I J z3 z4;have ak:=y' aj;clear z aj;go_wp2_with (go_at_call 67;refine(i' (ap _)).mono ?_;rintro H v ⟨aB,rfl,M,X⟩;obtain⟨aC,cap,rfl,_⟩:=M.shape;replace M:=y' M;replace X:=y' X);go_ret2;have ay:=(i' X);have az:=i' M;have aA:=(i' ak).size;have Y:Below y.heap.size y v:=(i' ak).trans (ay.mono aA);refine⟨_,_,y,rfl,i' ax,Y.alloc Y.size _,eD' (World.ownsRow.alloc (az.mono (by omega)) _) Y.size (heap_alloc_new _ _)⟩
theorem lP' {w:World} {p:Nat} {R:World->World->Prop} (M:∀ {u v r:World},R v r->Below u.heap.size u v->R u r) (D k e s q:Int) (b:ByteArray)
  (H:∀y,Below w.heap.size w y->Calls Tryz.prog 87 #[A' p, .agg #[.int .i64 k, .int .i64 e, .int .i64 s, .int .i64 q, .string b]] y fun z r=>z= .returned (.tuple #[.agg zFr, .int .i64 4])/\R y r):
  Calls Tryz.prog 70 #[.agg #[.int .i64 D, .func (.func 87) #[A' p] #[]], .agg #[.int .i64 k, .int .i64 e, .int .i64 s, .int .i64 q, .string b]] w fun z r=>
   ∃lv fs x,z= .returned (.tuple #[lv, .int .i64 4])/\R w x/\Below x.heap.size x r/\Q' x.heap.size r lv fs [] (fun _=>False):=by
 have F:=fun y O=>y' (H y O);have I:=y' (ca' w (.cells #[.int .i64 D, .func (.func 87) #[A' p] #[]] 130) (.cells #[.int .i64 k, .int .i64 e, .int .i64 s, .int .i64 q, .string b] 63));clear H;unfold zFr at F;unfold A' at *;go_enter Tryz.func70,Tryz.ntmps70;go_upto_region 1 with fail;refine H' (fun x=>x.heap[w.heap.size]? =some (.cells #[.int .i64 D, .func (.func 87) #[.pointer (some ⟨p,0,none⟩)] #[]] 130 (0,0))/\x.heap[w.heap.size+1]? =some (.cells #[.int .i64 k, .int .i64 e, .int .i64 s, .int .i64 q, .string b] 63 (0,0))/\Below w.heap.size w x) (i' I) ?_;clear I;rintro x ⟨h0,h1,G⟩;have Q:=t' (i:=1) h0;have z0:=t' (i:=0) h1;have U:=t' (i:=1) h1;have V:=t' (i:=2) h1;have z3:=t' (i:=3) h1;have z4:=t' (i:=4) h1;simp at Q z0 U V z3 z4;have X:=y' (i' (F x G));have Y:=y' G;clear h0 h1 G F;go_wp2_with (go_at_call 87;refine(i' X).mono ?_;rintro z y ⟨rfl,J⟩;have Z:=y' (M J (i' Y));clear J);go_ret2;exact⟨_,_,y,rfl,i' Z,(Below.refl _ _).alloc (Nat.le_refl _) _,bM' _ _⟩
theorem lQ' {w:World} {p:Nat} {R:World->World->Prop} (M:∀ {u v r:World},R v r->Below u.heap.size u v->R u r) (D k e s q:Int) (b:ByteArray)
  (H:∀y,Below w.heap.size w y->Calls Tryz.prog 88 #[A' p, .agg #[.int .i64 k, .int .i64 e, .int .i64 s, .int .i64 q, .string b]] y fun z r=>z= .returned (.tuple #[.agg zFr, .int .i64 4])/\R y r):
  Calls Tryz.prog 70 #[.agg #[.int .i64 D, .func (.func 88) #[A' p] #[]], .agg #[.int .i64 k, .int .i64 e, .int .i64 s, .int .i64 q, .string b]] w fun z r=>
   ∃lv fs x,z= .returned (.tuple #[lv, .int .i64 4])/\R w x/\Below x.heap.size x r/\Q' x.heap.size r lv fs [] (fun _=>False):=by
 have F:=fun y O=>y' (H y O);have I:=y' (ca' w (.cells #[.int .i64 D, .func (.func 88) #[A' p] #[]] 130) (.cells #[.int .i64 k, .int .i64 e, .int .i64 s, .int .i64 q, .string b] 63));clear H;unfold zFr at F;unfold A' at *;go_enter Tryz.func70,Tryz.ntmps70;go_upto_region 1 with fail;refine H' (fun x=>x.heap[w.heap.size]? =some (.cells #[.int .i64 D, .func (.func 88) #[.pointer (some ⟨p,0,none⟩)] #[]] 130 (0,0))/\x.heap[w.heap.size+1]? =some (.cells #[.int .i64 k, .int .i64 e, .int .i64 s, .int .i64 q, .string b] 63 (0,0))/\Below w.heap.size w x) (i' I) ?_;clear I;rintro x ⟨h0,h1,G⟩;have Q:=t' (i:=1) h0;have z0:=t' (i:=0) h1;have U:=t' (i:=1) h1;have V:=t' (i:=2) h1;have z3:=t' (i:=3) h1;have z4:=t' (i:=4) h1;simp at Q z0 U V z3 z4;have X:=y' (i' (F x G));have Y:=y' G;clear h0 h1 G F;go_wp2_with (go_at_call 88;refine(i' X).mono ?_;rintro z y ⟨rfl,J⟩;have Z:=y' (M J (i' Y));clear J);go_ret2;exact⟨_,_,y,rfl,i' Z,(Below.refl _ _).alloc (Nat.le_refl _) _,bM' _ _⟩
def DlR (R:World->World->Prop) (w r:World) (z:Int) (D:Ending) (F:List ByteArray):Prop:=
 ∃lv fs x,D= .returned (.tuple #[lv, .int .i64 z])/\R w x/\Below x.heap.size x r/\Q' x.heap.size r lv fs F (fun _=>False)
theorem ec' {w:World} {p:Nat} {a:Mod.Sk} {R:World->World->Prop} {Y:Int} {sh:Nat->List (Nat×Value)} {st:Mod.Stv} {c:Sv} (F:aN' w p a.epoch a.logs sh st c) (hs:st.dk.dead=false) (bs:Value) (az:∀ {u v r:World},R v r->Below u.heap.size u v->R u r) (k e s q:Int) (b:ByteArray) (aA:k=1) {Z:List ByteArray}
  (aa:∀y,Below w.heap.size w y->Calls Tryz.prog 69 #[bs] y fun G r=>G= .returned (.tuple #[.agg #[.int .i64 k, .int .i64 e, .int .i64 s, .int .i64 q, .string b], .int .i64 0])/\Below y.heap.size y r)
  (ab:∀y,Below w.heap.size w y->Calls Tryz.prog 70 #[.agg #[.int .i64 1, .func (.func 87) #[A' p] #[]], .agg #[.int .i64 k, .int .i64 e, .int .i64 s, .int .i64 q, .string b]] y fun G r=>
   ∃lv fs x,G= .returned (.tuple #[lv, .int .i64 Y])/\R y x/\Below x.heap.size x r/\Q' x.heap.size r lv fs Z (fun _=>False)):
  Calls Tryz.prog 44 #[A' p,bs] w fun G r=>DlR R w r Y G Z:=by
 have c0:w.cell? ⟨p,0,none⟩=some (A' c.s):=by rw[t' F.ks.blk,F.ks.a0]
 have O:=ai' F.stt;rw[hs]at O;have ac:=y' O;have ad:=y' (aa w (Below.refl _ _));subst aA;have aB:=fun y aC=>y' (ab y aC);clear ab;obtain⟨H,cap,ah,aN,aO,ai⟩:=F.rl.shape;obtain⟨g,o,rfl,J⟩:=ai (by omega);have r0:w.cell? ⟨g,o,none⟩=some (.int .i64 1):=by have:=J 0 (by omega);simpa[bf']using this
 have aj:w.cell? ⟨g,o+1,none⟩=some (.func (.func 87) #[A' p] #[]):=by have:=J 1 (by omega);simpa[bf']using this
 have ak:w.cell? ⟨g,o+2,none⟩=some (.int .i64 3):=by have:=J 2 (by omega);simpa[bf']using this
 have ao:w.cell? ⟨g,o+2+1,none⟩=some (.func (.func 88) #[A' p] #[]):=by have:=J 3 (by omega);simpa[bf']using this
 have aD:w.cell? ⟨p,11,none⟩=some (.slice (some ⟨g,o,none⟩) 2 cap):=by rw[t' F.ks.blk,F.ks.ar,ah]
 have M:g < w.heap.size:=World.block_lt_of_cell? _ _ r0;have aE:=lt_of_block F.ks.blk;clear F O aa J ai ah;unfold A' at *;go_enter Tryz.func44,Tryz.ntmps44;go_upto_region 4 with (first|(go_at_call 66;refine(i' ac).mono ?_;rintro G y ⟨rfl,aF⟩;obtain rfl:w=y:=aF.symm)|(go_at_call 69;refine(i' ad).mono ?_;rintro G y ⟨rfl,z⟩));obtain⟨I,Q⟩:∃I,I=y.heap.size:=⟨_,rfl⟩;have aP:w.heap.size<=I:=by have:=z.size;omega
 have ap:=y' Q;have U:=y' z;rw[<-Q];clear Q z;refine H' (fun u=>u.heap[I]? =some (.cells #[.int .i64 1, .int .i64 e, .int .i64 s, .int .i64 q, .string b] 63 (0,0))/\Below w.heap.size w u) ?_ ?_
 ·rw[i' ap];exact⟨heap_alloc_new _ _,(i' U).alloc (i' U).size _⟩
 clear ap U c0 ad ac;rintro u ⟨D,V⟩;have aG:=(V.cell (p:=⟨p,11,none⟩) aE).trans aD;have aq:=y' D;have au:=y' V;clear D V;go_wp2;go_loopw[9,28] (fun _ i wr=>∃j:Nat,j<=0/\i= .int .i64 j/\wr.heap[I]? =some (.cells #[.int .i64 1, .int .i64 e, .int .i64 s, .int .i64 q, .string b] 63 (0,0))/\Below w.heap.size w wr) (fun _ i _=>3 - (intOf i).toNat)
 case atStart=>exact⟨0,by omega,rfl,i' aq,i' au⟩
 case round=>
  obtain⟨j,hj,rfl,D,z⟩:=hrel;clear aq au aG;have s0:=(z.cell (p:=⟨g,o,none⟩) M).trans r0;have s1:=(z.cell (p:=⟨g,o+1,none⟩) M).trans aj;have aQ:=(z.cell (p:=⟨g,o+2,none⟩) M).trans ak;have aR:=(z.cell (p:=⟨g,o+2+1,none⟩) M).trans ao;have aH:=t' (i:=0) D;have aI:=t' (i:=1) D;have aJ:=t' (i:=2) D;have aK:=t' (i:=3) D;have aL:=t' (i:=4) D;simp at aH aI aJ aK aL;have aM:=lt_of_block D;have aS:=y' D;have av:=y' z;have ax:∀X,(wr.alloc X).heap[I]? =some (.cells #[.int .i64 1, .int .i64 e, .int .i64 s, .int .i64 q, .string b] 63 (0,0))/\Below w.heap.size w (wr.alloc X):=fun X=>⟨(hao _ _ aM).trans D,z.alloc z.size _⟩;have ay:=y' ax;clear D z ax r0 aj ak ao;have aT:∀ (H:Addr) (m:Mode) (r:World),(store H (.func (.func 87) #[.pointer (some ⟨p,0,none⟩)] #[]) m).run Tryz.prog r=stored Tryz.prog r H (.func (.func 87) #[.pointer (some ⟨p,0,none⟩)] #[]) m:=fun H m r=>run_store _ _ _ _ _ rfl;have aU:∀ (H:Addr) (m:Mode) (r:World),(store H (.func (.func 88) #[.pointer (some ⟨p,0,none⟩)] #[]) m).run Tryz.prog r=stored Tryz.prog r H (.func (.func 88) #[.pointer (some ⟨p,0,none⟩)] #[]) m:=fun H m r=>run_store _ _ _ _ _ rfl;obtain rfl:j=0:=by omega
  focus
   go_wp2_with (go_at_call 70;refine(i' (aB _ (by first|exact((i' ay) _).2|exact(i' av)))).mono ?_;rintro G r ⟨lv,fs,x,rfl,k1,k2,k3⟩;replace k1:=y' k1;replace k2:=y' k2;replace k3:=y' k3)
   go_ret2
   exact⟨lv,fs,x,rfl,az (i' k1) (by first|exact((i' ay) _).2|exact(i' av)),i' k2,i' k3⟩
theorem ed' {w:World} {p:Nat} {a:Mod.Sk} {R:World->World->Prop} {Z:Int} {sh:Nat->List (Nat×Value)} {st:Mod.Stv} {c:Sv} (F:aN' w p a.epoch a.logs sh st c) (hs:st.dk.dead=false) (bs:Value) (az:∀ {u v r:World},R v r->Below u.heap.size u v->R u r) (k e s q:Int) (b:ByteArray) (aA:k=3) {aa:List ByteArray}
  (ab:∀y,Below w.heap.size w y->Calls Tryz.prog 69 #[bs] y fun G r=>G= .returned (.tuple #[.agg #[.int .i64 k, .int .i64 e, .int .i64 s, .int .i64 q, .string b], .int .i64 0])/\Below y.heap.size y r)
  (ac:∀y,Below w.heap.size w y->Calls Tryz.prog 70 #[.agg #[.int .i64 3, .func (.func 88) #[A' p] #[]], .agg #[.int .i64 k, .int .i64 e, .int .i64 s, .int .i64 q, .string b]] y fun G r=>
   ∃lv fs x,G= .returned (.tuple #[lv, .int .i64 Z])/\R y x/\Below x.heap.size x r/\Q' x.heap.size r lv fs aa (fun _=>False)):
  Calls Tryz.prog 44 #[A' p,bs] w fun G r=>DlR R w r Z G aa:=by
 have c0:w.cell? ⟨p,0,none⟩=some (A' c.s):=by rw[t' F.ks.blk,F.ks.a0]
 have O:=ai' F.stt;rw[hs]at O;have ad:=y' O;have ah:=y' (ab w (Below.refl _ _));subst aA;have aB:=fun y aC=>y' (ac y aC);clear ac;obtain⟨H,cap,ai,aN,aO,aj⟩:=F.rl.shape;obtain⟨g,o,rfl,J⟩:=aj (by omega);have r0:w.cell? ⟨g,o,none⟩=some (.int .i64 1):=by have:=J 0 (by omega);simpa[bf']using this
 have ak:w.cell? ⟨g,o+1,none⟩=some (.func (.func 87) #[A' p] #[]):=by have:=J 1 (by omega);simpa[bf']using this
 have ao:w.cell? ⟨g,o+2,none⟩=some (.int .i64 3):=by have:=J 2 (by omega);simpa[bf']using this
 have ap:w.cell? ⟨g,o+2+1,none⟩=some (.func (.func 88) #[A' p] #[]):=by have:=J 3 (by omega);simpa[bf']using this
 have aD:w.cell? ⟨p,11,none⟩=some (.slice (some ⟨g,o,none⟩) 2 cap):=by rw[t' F.ks.blk,F.ks.ar,ai]
 have M:g < w.heap.size:=World.block_lt_of_cell? _ _ r0;have aE:=lt_of_block F.ks.blk;clear F O ab J aj ai;unfold A' at *;go_enter Tryz.func44,Tryz.ntmps44;go_upto_region 4 with (first|(go_at_call 66;refine(i' ad).mono ?_;rintro G y ⟨rfl,aF⟩;obtain rfl:w=y:=aF.symm)|(go_at_call 69;refine(i' ah).mono ?_;rintro G y ⟨rfl,z⟩));obtain⟨I,Q⟩:∃I,I=y.heap.size:=⟨_,rfl⟩;have aP:w.heap.size<=I:=by have:=z.size;omega
 have aq:=y' Q;have U:=y' z;rw[<-Q];clear Q z;refine H' (fun u=>u.heap[I]? =some (.cells #[.int .i64 3, .int .i64 e, .int .i64 s, .int .i64 q, .string b] 63 (0,0))/\Below w.heap.size w u) ?_ ?_
 ·rw[i' aq];exact⟨heap_alloc_new _ _,(i' U).alloc (i' U).size _⟩
 clear aq U c0 ah ad;rintro u ⟨D,V⟩;have aG:=(V.cell (p:=⟨p,11,none⟩) aE).trans aD;have au:=y' D;have av:=y' V;clear D V;go_wp2;go_loopw[9,28] (fun _ i wr=>∃j:Nat,j<=1/\i= .int .i64 j/\wr.heap[I]? =some (.cells #[.int .i64 3, .int .i64 e, .int .i64 s, .int .i64 q, .string b] 63 (0,0))/\Below w.heap.size w wr) (fun _ i _=>3 - (intOf i).toNat)
 case atStart=>exact⟨0,by omega,rfl,i' au,i' av⟩
 case round=>
  obtain⟨j,hj,rfl,D,z⟩:=hrel;clear au av aG;have s0:=(z.cell (p:=⟨g,o,none⟩) M).trans r0;have s1:=(z.cell (p:=⟨g,o+1,none⟩) M).trans ak;have aQ:=(z.cell (p:=⟨g,o+2,none⟩) M).trans ao;have aR:=(z.cell (p:=⟨g,o+2+1,none⟩) M).trans ap;have aH:=t' (i:=0) D;have aI:=t' (i:=1) D;have aJ:=t' (i:=2) D;have aK:=t' (i:=3) D;have aL:=t' (i:=4) D;simp at aH aI aJ aK aL;have aM:=lt_of_block D;have aS:=y' D;have ax:=y' z;have ay:∀X,(wr.alloc X).heap[I]? =some (.cells #[.int .i64 3, .int .i64 e, .int .i64 s, .int .i64 q, .string b] 63 (0,0))/\Below w.heap.size w (wr.alloc X):=fun X=>⟨(hao _ _ aM).trans D,z.alloc z.size _⟩;have Y:=y' ay;clear D z ay r0 ak ao ap;have aT:∀ (H:Addr) (m:Mode) (r:World),(store H (.func (.func 87) #[.pointer (some ⟨p,0,none⟩)] #[]) m).run Tryz.prog r=stored Tryz.prog r H (.func (.func 87) #[.pointer (some ⟨p,0,none⟩)] #[]) m:=fun H m r=>run_store _ _ _ _ _ rfl;have aU:∀ (H:Addr) (m:Mode) (r:World),(store H (.func (.func 88) #[.pointer (some ⟨p,0,none⟩)] #[]) m).run Tryz.prog r=stored Tryz.prog r H (.func (.func 88) #[.pointer (some ⟨p,0,none⟩)] #[]) m:=fun H m r=>run_store _ _ _ _ _ rfl;rcases(show j=0\/j=1 by omega)with rfl|rfl;focus
   go_wp2;exact⟨⟨1,by omega,by go_num,(i' Y) _⟩,by simp[intOf]⟩
  focus
   go_wp2_with (go_at_call 70;refine(i' (aB _ (by first|exact((i' Y) _).2|exact(i' ax)))).mono ?_;rintro G r ⟨lv,fs,x,rfl,k1,k2,k3⟩;replace k1:=y' k1;replace k2:=y' k2;replace k3:=y' k3)
   go_ret2
   exact⟨lv,fs,x,rfl,az (i' k1) (by first|exact((i' Y) _).2|exact(i' ax)),i' k2,i' k3⟩
theorem lR' {w:World} {p:Nat} {a:Mod.Sk} {R:World->World->Prop} {sh:Nat->List (Nat×Value)} {st:Mod.Stv} {c:Sv} (F:aN' w p a.epoch a.logs sh st c) (hs:st.dk.dead=false) (Y:R w w) (bs:Value) (k e s q:Int) (b:ByteArray) (aI:¬k=1) (aJ:¬k=3)
  (Z:∀y,Below w.heap.size w y->Calls Tryz.prog 69 #[bs] y fun I D=>I= .returned (.tuple #[.agg #[.int .i64 k, .int .i64 e, .int .i64 s, .int .i64 q, .string b], .int .i64 0])/\Below y.heap.size y D):
  Calls Tryz.prog 44 #[A' p,bs] w fun I D=>DlR R w D 0 I []:=by
 have c0:w.cell? ⟨p,0,none⟩=some (A' c.s):=by rw[t' F.ks.blk,F.ks.a0]
 have O:=ai' F.stt;rw[hs]at O;have aa:=y' O;have ab:=y' (Z w (Below.refl _ _));have aK:((1:Int) ==k)=false:=by simp;omega
 have aL:((3:Int) ==k)=false:=by simp;omega
 obtain⟨G,cap,ac,aM,aN,ad⟩:=F.rl.shape;obtain⟨g,o,rfl,J⟩:=ad (by omega);have r0:w.cell? ⟨g,o,none⟩=some (.int .i64 1):=by have:=J 0 (by omega);simpa[bf']using this
 have ah:w.cell? ⟨g,o+1,none⟩=some (.func (.func 87) #[A' p] #[]):=by have:=J 1 (by omega);simpa[bf']using this
 have ai:w.cell? ⟨g,o+2,none⟩=some (.int .i64 3):=by have:=J 2 (by omega);simpa[bf']using this
 have aj:w.cell? ⟨g,o+2+1,none⟩=some (.func (.func 88) #[A' p] #[]):=by have:=J 3 (by omega);simpa[bf']using this
 have av:w.cell? ⟨p,11,none⟩=some (.slice (some ⟨g,o,none⟩) 2 cap):=by rw[t' F.ks.blk,F.ks.ar,ac]
 have M:g < w.heap.size:=World.block_lt_of_cell? _ _ r0;have ax:=lt_of_block F.ks.blk;have ay:=y' Y;clear F O Z J ad ac Y;unfold A' at *;go_enter Tryz.func44,Tryz.ntmps44;go_upto_region 4 with (first|(go_at_call 66;refine(i' aa).mono ?_;rintro I y ⟨rfl,az⟩;obtain rfl:w=y:=az.symm)|(go_at_call 69;refine(i' ab).mono ?_;rintro I y ⟨rfl,r⟩));obtain⟨H,Q⟩:∃H,H=y.heap.size:=⟨_,rfl⟩;have aO:w.heap.size<=H:=by have:=r.size;omega
 have ak:=y' Q;have U:=y' r;rw[<-Q];clear Q r;refine H' (fun u=>u.heap[H]? =some (.cells #[.int .i64 k, .int .i64 e, .int .i64 s, .int .i64 q, .string b] 63 (0,0))/\Below w.heap.size w u) ?_ ?_
 ·rw[i' ak];exact⟨heap_alloc_new _ _,(i' U).alloc (i' U).size _⟩
 clear ak U c0 ab aa;rintro u ⟨z,V⟩;have aA:=(V.cell (p:=⟨p,11,none⟩) ax).trans av;have ao:=y' z;have ap:=y' V;clear z V;go_wp2;go_loopw[9,28] (fun _ i wr=>∃j:Nat,j<=2/\i= .int .i64 j/\wr.heap[H]? =some (.cells #[.int .i64 k, .int .i64 e, .int .i64 s, .int .i64 q, .string b] 63 (0,0))/\Below w.heap.size w wr) (fun _ i _=>3 - (intOf i).toNat)
 case atStart=>exact⟨0,by omega,rfl,i' ao,i' ap⟩
 case round=>
  obtain⟨j,hj,rfl,z,r⟩:=hrel;clear ao ap aA;have s0:=(r.cell (p:=⟨g,o,none⟩) M).trans r0;have s1:=(r.cell (p:=⟨g,o+1,none⟩) M).trans ah;have aP:=(r.cell (p:=⟨g,o+2,none⟩) M).trans ai;have aQ:=(r.cell (p:=⟨g,o+2+1,none⟩) M).trans aj;have aB:=t' (i:=0) z;have aC:=t' (i:=1) z;have aD:=t' (i:=2) z;have aE:=t' (i:=3) z;have aF:=t' (i:=4) z;simp at aB aC aD aE aF;have aG:=lt_of_block z;have aR:=y' z;have aH:=y' r;have aq:∀X,(wr.alloc X).heap[H]? =some (.cells #[.int .i64 k, .int .i64 e, .int .i64 s, .int .i64 q, .string b] 63 (0,0))/\Below w.heap.size w (wr.alloc X):=fun X=>⟨(hao _ _ aG).trans z,r.alloc r.size _⟩;have au:=y' aq;clear z r aq r0 ah ai aj;have aS:∀ (G:Addr) (m:Mode) (D:World),(store G (.func (.func 87) #[.pointer (some ⟨p,0,none⟩)] #[]) m).run Tryz.prog D=stored Tryz.prog D G (.func (.func 87) #[.pointer (some ⟨p,0,none⟩)] #[]) m:=fun G m D=>run_store _ _ _ _ _ rfl;have aT:∀ (G:Addr) (m:Mode) (D:World),(store G (.func (.func 88) #[.pointer (some ⟨p,0,none⟩)] #[]) m).run Tryz.prog D=stored Tryz.prog D G (.func (.func 88) #[.pointer (some ⟨p,0,none⟩)] #[]) m:=fun G m D=>run_store _ _ _ _ _ rfl;rcases(show j=0\/j=1\/j=2 by omega)with rfl|rfl|rfl;focus
   go_wp2;exact⟨⟨1,by omega,by go_num,(i' au) _⟩,by simp[intOf]⟩
  focus
   go_wp2;exact⟨⟨2,by omega,by go_num,(i' au) _⟩,by simp[intOf]⟩
  focus
   go_wp2;go_ret2;exact⟨_,_,w,rfl,i' ay,i' aH,bM' _ _⟩
def sp' (a:Mod.Sk) (k e:Int) (s q:Nat) (b:ByteArray):Nat:=
 if k=1 then(if e < a.epoch then 0 else hiW a e.toNat)else if k=3 then(if e=a.epoch then(a.commits 3 a.epoch s q b).length else 0)else 0
def skW (a:Mod.Sk) (l:List UInt8):Nat:=if Wire.reads l=true then sp' a (Wire.kindOf l) (Wire.epochOf l) (Wire.streamOf l).toNat (Wire.seqOf l).toNat (Wire.bodyOf l)else 0
def oN' (a:Mod.Sk) (k:Int) (s q:Nat) (b:ByteArray) (n:Nat):Nat->List ByteArray:=if k=3 then(grown a s ((a.commits 3 a.epoch s q b).take (n - 1))).logs else a.logs
def iE' (a:Mod.Sk) (l:List UInt8) (n:Nat):Nat->List ByteArray:=oN' a (Wire.kindOf l) (Wire.streamOf l).toNat (Wire.seqOf l).toNat (Wire.bodyOf l) n
theorem iF' {a:Mod.Sk} {l:List UInt8} (r:Wire.reads l=true) {k:Int} {e s q:Nat} {b:ByteArray} (h1:Wire.kindOf l=k) (h2:Wire.epochOf l=e) (h3:Wire.streamOf l=s) (h4:Wire.seqOf l=q) (h5:Wire.bodyOf l=b):
  skW a l=sp' a k e s q b/\∀n,iE' a l n=oN' a k s q b n:=by
 unfold skW iE';rw[r,h1,h2,h3,h4,h5];exact⟨rfl,fun _=>rfl⟩
theorem oO' {a:Mod.Sk} {l:List UInt8} (r:Wire.reads l=false):skW a l=0:=by
 unfold skW;rw[r];rfl
theorem xU' {a:Mod.Sk} {l:List UInt8} {n:Nat} (r:Wire.reads l=false) (z:1<=n/\n<=skW a l):False:=by
 rw[oO' r]at z;omega
theorem lS' {op ct n:Nat} {w:World} {p:Nat} {a:Mod.Sk} {sh:Nat->List (Nat×Value)} {st:Mod.Stv} {c:Sv} (F:aN' w p a.epoch a.logs sh st c) (hs:Alv op ct n st a.epoch a.logs) (aa:ct+1000 < 18446744073709551616) (ab:aw' a) (ao:aR' a) (O:dn' a.held sh) (bs:Value) (l:List UInt8) (ac:ab' w bs l) (G:n=0\/skW a l < n):
  Calls Tryz.prog 44 #[A' p,bs] w fun Q z=>DlR (fun u x=>bP' op (ct+skW a l) (n - skW a l) u x p (am' a l).2.1 c) w z (am' a l).1 Q (am' a l).2.2:=by
 cases J:Wire.reads l
 ·rw[eO' J,oO' J];refine(jw' F hs.dead bs l ac J).mono ?_;rintro Q z ⟨rfl,r⟩;exact⟨_,[],w,rfl,de' F hs O,r,bM' _ _⟩
 ·obtain⟨k,e,s,q,b,h1,h2,h3,h4,h5,g1,g2,ap,aq⟩:=bK' J;rw[db' J h1 h2 h3 h4 h5];rw[(iF' J h1 h2 h3 h4 h5).1]at G ⊢;have U:∀y,Below w.heap.size w y->Calls Tryz.prog 69 #[bs] y fun Q z=>Q= .returned (.tuple #[.agg #[.int .i64 k, .int .i64 e, .int .i64 s, .int .i64 q, .string b], .int .i64 0])/\Below y.heap.size y z:=fun y D=>by have:=cB' bs l y (ac.below D);rw[J]at this;simp only[if_true,kH',h1,h2,h3,h4,h5]at this;exact this
  have V:=fun y (D:Below w.heap.size w y)=>F.far (C' (E:=fun _=>False) D) (fun _ _ h=>h);have au:=F.ks.loglen (i:=0) (by omega);have av:=F.ks.loglen (i:=1) (by omega);have ax:=F.ks.loglen (i:=2) (by omega);have ay:=F.ks.ep;have I:∀ {ad ah:Nat} {ai:Mod.Sk} {u v z:World},bP' op ad ah v z p ai c->Below u.heap.size u v->bP' op ad ah u z p ai c:=fun h r=>bP'.behind h r;unfold bI';unfold sp' at G ⊢;by_cases k1:k=1
  ·simp only[if_pos k1]at G ⊢;by_cases aj:(e:Int) < a.epoch
   ·simp only[if_pos aj]at G ⊢;refine ec' (R:=(fun u x=>bP' op (ct+0) (n - 0) u x p a c)) F hs.dead bs (fun h r=>I h r) k e s q b k1 U (fun y D=>?_);subst k1;refine gK' (w:=y) (R:=(fun u x=>bP' op (ct+0) (n - 0) u x p a c)) (fun h r=>I h r) 1 1 e s q b 5 a.epoch 0 0 ⟨#[]⟩ (io' _ ay) (fun z M=>?_);have H:Below w.heap.size w z:=D.trans (M.mono D.size);refine(ks' (V z H) e s q b (by omega)).mono ?_;rintro Q u ⟨rfl,r⟩;exact⟨rfl,(de' (V z H) hs O).below r⟩
   ·simp only[if_neg aj]at G ⊢;have X:(e:Int).toNat=e:=by omega
    rw[X]at G ⊢;refine ec' (R:=(fun u x=>bP' op (ct+hiW a e) (n - hiW a e) u x p (bc' a e) c)) F hs.dead bs (fun h r=>I h r) k e s q b k1 U (fun y D=>?_);subst k1;refine gK' (w:=y) (R:=(fun u x=>bP' op (ct+hiW a e) (n - hiW a e) u x p (bc' a e) c)) (fun h r=>I h r) 1 1 e s q b 2 e 0 0 (gY' a) (rz' g1 au av ax) (fun z M=>?_);have H:Below w.heap.size w z:=D.trans (M.mono D.size);exact lN' (V z H) hs aa O e s q b (by omega) g1 G
  ·simp only[if_neg k1]at G ⊢;by_cases k3:k=3
   ·simp only[if_pos k3]at G ⊢;by_cases Y:(e:Int)=a.epoch
    ·simp only[if_pos Y]at G ⊢;have aA:e=a.epoch:=by omega
     subst k3;rw[Y]at U ⊢;refine ed' (R:=(fun u x=>bP' op (ct+(a.commits 3 a.epoch s q b).length) (n - (a.commits 3 a.epoch s q b).length) u x p (ak' a 3 a.epoch s q b) c)) F hs.dead bs (fun h r=>I h r) 3 a.epoch s q b rfl U (fun y D=>?_);have Z:=fc' ab 3 a.epoch s q b g2 (by omega);refine gL' (w:=y) (R:=(fun u x=>bP' op (ct+(a.commits 3 a.epoch s q b).length) (n - (a.commits 3 a.epoch s q b).length) u x p (ak' a 3 a.epoch s q b) c)) (fun h r=>I h r) 3 3 a.epoch s q b 4 a.epoch s _ _ ?_ (fun z M=>?_)
     ·have az:(ak' a 3 a.epoch s q b).epoch=a.epoch:=by
       unfold ak';split
       ·exact dC' _ _ _ _
       ·rfl
      have ak:aw' (ak' a 3 a.epoch s q b):=by unfold bI' at Z;rw[if_neg (by omega),if_pos rfl,if_pos rfl]at Z;exact Z
      have aB:=jd' (a:=ak' a 3 a.epoch s q b) g2;have aC:=ak.room;have:=gV' (a:=ak' a 3 a.epoch s q b) (s:=s) (up:=((ak' a 3 a.epoch s q b).logs s).length) ak.ep g2 (by omega);rw[az]at this;exact this
     ·have H:Below w.heap.size w z:=D.trans (M.mono D.size);exact mS' (V z H) hs aa ab ao O s q g2 ap b aq G
    ·simp only[if_neg Y]at G ⊢;have X:max (e:Int).toNat a.epoch=max e a.epoch:=rfl;rw[X];subst k3;refine ed' (R:=(fun u x=>bP' op (ct+0) (n - 0) u x p a c)) F hs.dead bs (fun h r=>I h r) 3 e s q b rfl U (fun y D=>?_);refine gL' (w:=y) (R:=(fun u x=>bP' op (ct+0) (n - 0) u x p a c)) (fun h r=>I h r) 3 3 e s q b 5 (max e a.epoch:Nat) 0 0 ⟨#[]⟩ (io' _ (by omega)) (fun z M=>?_);have H:Below w.heap.size w z:=D.trans (M.mono D.size);refine(jl' (V z H) e s q b (by omega)).mono ?_;rintro Q u ⟨rfl,r⟩;exact⟨rfl,(de' (V z H) hs O).below r⟩
   ·simp only[if_neg k3]at G ⊢;exact lR' (R:=fun u x=>bP' op (ct+0) (n - 0) u x p a c) F hs.dead (de' F hs O) bs k e s q b k1 k3 U
theorem ky' {op ct n:Nat} {w:World} {p:Nat} {a:Mod.Sk} {sh:Nat->List (Nat×Value)} {st:Mod.Stv} {c:Sv} (I:aN' w p a.epoch a.logs sh st c) (hs:Alv op ct n st a.epoch a.logs) (V:ct+1000 < 18446744073709551616) (ab:aw' a) (ac:aR' a) (X:dn' a.held sh) (bs:Value) (l:List UInt8) (ad:ab' w bs l) (r:1<=n/\n<=skW a l):
  Calls Tryz.prog 44 #[A' p,bs] w fun J z=>DlR (fun u x=>bC' op u x p a.epoch (iE' a l n) c) w z 4 J []:=by
 cases G:Wire.reads l
 ·exact(xU' G r).elim
 ·obtain⟨k,e,s,q,b,h1,h2,h3,h4,h5,g1,g2,ah,ai⟩:=bK' G;rw[(iF' G h1 h2 h3 h4 h5).1]at r;rw[(iF' G h1 h2 h3 h4 h5).2];have M:∀y,Below w.heap.size w y->Calls Tryz.prog 69 #[bs] y fun J z=>J= .returned (.tuple #[.agg #[.int .i64 k, .int .i64 e, .int .i64 s, .int .i64 q, .string b], .int .i64 0])/\Below y.heap.size y z:=fun y D=>by have:=cB' bs l y (ad.below D);rw[G]at this;simp only[if_true,kH',h1,h2,h3,h4,h5]at this;exact this
  have Y:=fun y (D:Below w.heap.size w y)=>I.far (C' (E:=fun _=>False) D) (fun _ _ h=>h);have H:∀ {Z:Nat} {lg:Nat->List ByteArray} {u v z:World},bC' op v z p Z lg c->Below u.heap.size u v->bC' op u z p Z lg c:=fun h F=>bC'.behind h F;unfold oN';unfold sp' at r;by_cases k1:k=1
  ·rw[if_neg (by omega)];rw[if_pos k1]at r;by_cases aa:(e:Int) < a.epoch
   ·rw[if_pos aa]at r;omega
   ·rw[if_neg aa]at r;have aj:(e:Int).toNat=e:=by omega
    rw[aj]at r;refine ec' (R:=(fun u x=>bC' op u x p a.epoch a.logs c)) I hs.dead bs (fun h F=>H h F) k e s q b k1 M (fun y D=>?_);subst k1;refine lP' (w:=y) (R:=(fun u x=>bC' op u x p a.epoch a.logs c)) (fun h F=>H h F) 1 1 e s q b (fun z O=>?_);have Q:Below w.heap.size w z:=D.trans (O.mono D.size);exact kx' (Y z Q) hs V X e s q b (by omega) g1 r
  ·rw[if_neg k1]at r;by_cases k3:k=3
   ·rw[if_pos k3]at r ⊢;by_cases U:(e:Int)=a.epoch
    ·rw[if_pos U]at r;subst k3;rw[U]at M;refine ed' (R:=(fun u x=>bC' op u x p a.epoch (grown a s ((a.commits 3 a.epoch s q b).take (n - 1))).logs c)) I hs.dead bs (fun h F=>H h F) 3 a.epoch s q b rfl M (fun y D=>?_);refine lQ' (w:=y) (R:=(fun u x=>bC' op u x p a.epoch (grown a s ((a.commits 3 a.epoch s q b).take (n - 1))).logs c)) (fun h F=>H h F) 3 3 a.epoch s q b (fun z O=>?_);have Q:Below w.heap.size w z:=D.trans (O.mono D.size);exact lO' (Y z Q) hs V ab ac X s q g2 ah b ai r
    ·rw[if_neg U]at r;omega
   ·rw[if_neg k3]at r;omega
theorem oP' {w:World} {p e:Nat} {logs:Nat->List ByteArray} {sh:Nat->List (Nat×Value)} {st:Mod.Stv} {c:Sv} (r:aN' w p e logs sh st c) (hs:st.dk.dead=false) (i:Int):
  Calls Tryz.prog 46 #[A' p, .int .i64 i] w fun D w'=>
   ∃lv,D= .returned lv/\w'.ownsRow w.heap.size 9 1 lv (if 0<=i/\i < 3 then logs i.toNat else []).length (aV' (if 0<=i/\i < 3 then logs i.toNat else []))/\Below w.heap.size w w':=by
 have c0:w.cell? ⟨p,0,none⟩=some (A' c.s):=by rw[t' r.ks.blk,r.ks.a0]
 have H:=ai' r.stt;rw[hs]at H;have aa:=y' H;by_cases h:0<=i/\i < 3
 ·rw[if_pos h];obtain⟨n,rfl⟩:=Int.eq_ofNat_of_zero_le h.1;obtain⟨h0,h3⟩:=h;have I:n < 3:=by omega
  obtain⟨ah,cap,V,ab⟩:=r.ks.logc I;have J:=r.ks.lgs n I;rw[V]at J;have X:=y' (mF' J (by have:=r.ks.loglen I;omega));have F:Wire.isStr (n:Int)=true:=by simp[Wire.isStr];omega
  have z:=bj' (n:Int) w;rw[F]at z;have M:=y' z;have Y:((n:Int)).toNat=n:=by omega
  rw[Y];obtain⟨m,O⟩:∃m,m=(logs n).length:=⟨_,rfl⟩;obtain⟨xs,Z⟩:∃xs,xs=aV' (logs n):=⟨_,rfl⟩;rw[<-O,<-Z]at X ⊢;rw[<-O]at ab;clear r H J V z F Y O Z;unfold A' at *;go_enter Tryz.func46,Tryz.ntmps46;go_wp2_with (first|(go_at_call 71;refine(i' M).mono ?_;rintro D y ⟨rfl,G⟩;obtain rfl:w=y:=G.symm)|(go_at_call 66;refine(i' aa).mono ?_;rintro D y ⟨rfl,G⟩;obtain rfl:w=y:=G.symm)|(go_at_call 72;refine(i' X).mono ?_;rintro D y ⟨ac,rfl,Q,U⟩;replace Q:=y' Q;replace U:=y' U));go_ret;exact⟨ac,rfl,i' Q,i' U⟩
 ·rw[if_neg h];have F:Wire.isStr i=false:=by
   cases ad:Wire.isStr i
   ·rfl
   ·simp[Wire.isStr]at ad;omega
  have z:=bj' i w;rw[F]at z;have M:=y' z;clear r H z F h;unfold A' at *;go_enter Tryz.func46,Tryz.ntmps46;go_wp2_with (go_at_call 71;refine(i' M).mono ?_;rintro D y ⟨rfl,G⟩;obtain rfl:w=y:=G.symm);go_ret;exact⟨_,rfl,World.ownsRow_nil _ _ _ _,Below.refl _ _⟩
theorem jx' {w:World} {p e:Nat} {logs:Nat->List ByteArray} {sh:Nat->List (Nat×Value)} {st:Mod.Stv} {c:Sv} (r:aN' w p e logs sh st c) (hs:st.dk.dead=true) (bs:Value):
  Calls Tryz.prog 44 #[A' p,bs] w fun D w'=>D= .returned (.tuple #[.slice none 0 0, .int .i64 3])/\w'=w:=by
 have c0:w.cell? ⟨p,0,none⟩=some (A' c.s):=by rw[t' r.ks.blk,r.ks.a0]
 have z:=ai' r.stt;rw[hs]at z;have F:=y' z;clear r z;unfold A' at *;go_enter Tryz.func44,Tryz.ntmps44;go_wp2_with (go_at_call 66;refine(i' F).mono ?_;rintro D y ⟨rfl,G⟩;obtain rfl:w=y:=G.symm);go_ret2;exact⟨rfl,rfl⟩
theorem qL' {w:World} {p e:Nat} {logs:Nat->List ByteArray} {sh:Nat->List (Nat×Value)} {st:Mod.Stv} {c:Sv} (r:aN' w p e logs sh st c) (n:Int) (D:n<=9223372036854775807):
  Calls Tryz.prog 42 #[A' p, .int .i64 n] w fun z w'=>z= .returned (.tuple #[])/\aN' w' p e logs sh {st with dk:={st.dk with armed:=n.toNat}} c/\Far (fun k=>k=c.dp) w w':=by
 have c0:w.cell? ⟨p,0,none⟩=some (A' c.s):=by rw[t' r.ks.blk,r.ks.a0]
 have F:=y' (iB' r.stt n D);have G:=y' r;clear r;unfold A' at *;go_enter Tryz.func42,Tryz.ntmps42;go_wp2_with (go_at_call 65;refine(i' F).mono ?_;rintro z y ⟨rfl,k1,k2⟩;replace k1:=y' k1;replace k2:=y' k2);have r:=i' G;exact bodyPost_end (results_none rfl _ _ _) rfl ⟨rfl,⟨r.ks.far (i' k2) (fun k H e=>r.sep k H (by rw[e];exact .inr (.inl rfl))),i' k1,r.rl.far (i' k2) (fun g I e=>(r.sepr g I).2 (by rw[e];exact .inr (.inl rfl))),r.len⟩,i' k2⟩
def gb' (op ct n:Nat) (w:World) (v:Nat) (a:Mod.Sk) (r:Nat->Prop):Prop:=
 ∃p sh st c,w.heap[v]? =some (.cells #[A' p] 79 (0,0))/\aN' w p a.epoch a.logs sh st c/\Alv op ct n st a.epoch a.logs/\dn' a.held sh/\aR' a/\r=fun k=>k=v\/PkU p c k
def oQ' (op:Nat) (w:World) (v:Nat) (e:Nat) (logs:Nat->List ByteArray) (r:Nat->Prop):Prop:=
 ∃p sh st c,w.heap[v]? =some (.cells #[A' p] 79 (0,0))/\aN' w p e logs sh st c/\Ded op st e logs/\r=fun k=>k=v\/PkU p c k
section
variable {op ct n:Nat} {w w':World} {v:Nat} {a:Mod.Sk} {U:Nat->Prop} {e:Nat} {lg:Nat->List ByteArray}
theorem tj' (h:gb' op ct n w v a U):∀k,U k->k < w.heap.size:=by
 obtain⟨p,sh,st,c,r,z,_,_,_,rfl⟩:=h;rintro k (rfl|D)
 ·exact lt_of_block r
 ·exact z.lt k D
theorem qM' {E:Nat->Prop} (h:gb' op ct n w v a U) (r:Far E w w') (z:∀k,U k->¬E k):gb' op ct n w' v a U:=by
 obtain⟨p,sh,st,c,D,F,h1,h2,h3,rfl⟩:=h;exact⟨p,sh,st,c,r.blk D (z v (.inl rfl)),F.far r (fun k G=>z k (.inr G)),h1,h2,h3,rfl⟩
theorem wN' (h:oQ' op w v e lg U):∀k,U k->k < w.heap.size:=by
 obtain⟨p,sh,st,c,r,z,_,rfl⟩:=h;rintro k (rfl|D)
 ·exact lt_of_block r
 ·exact z.lt k D
theorem vI' {E:Nat->Prop} (h:oQ' op w v e lg U) (r:Far E w w') (z:∀k,U k->¬E k):oQ' op w' v e lg U:=by
 obtain⟨p,sh,st,c,D,F,h1,rfl⟩:=h;exact⟨p,sh,st,c,r.blk D (z v (.inl rfl)),F.far r (fun k G=>z k (.inr G)),h1,rfl⟩
theorem iG' (bs:Value) (l:List UInt8) (h:gb' op ct n w v a U) (O:ct+1000 < 18446744073709551616) (ah:aw' a) (Q:ab' w bs l) (V:n=0\/skW a l < n):
  Calls Tryz.prog 15 #[A' v,bs] w fun X w'=>
   ∃lv fs U',X= .returned (.tuple #[lv, .int .i64 (am' a l).1])/\Q' w.heap.size w' lv fs (am' a l).2.2 U'/\gb' op (ct+skW a l) (n - skW a l) w' v (am' a l).2.1 U'/\Far U w w'/\∀k,U' k->U k\/w.heap.size<=k:=by
 obtain⟨p,sh,st,c,r,F,hs,ai,Y,rfl⟩:=h;have c0:w.cell? ⟨v,0,none⟩=some (A' p):=t' (i:=0) r;have z:=y' (lS' F hs O ah Y ai bs l Q V);have D:=fX' Y l;obtain⟨Z,G⟩:∃Z,Z=(am' a l).2.1:=⟨_,rfl⟩;obtain⟨aa,ab⟩:∃aa,aa=(am' a l).1:=⟨_,rfl⟩;obtain⟨ac,ad⟩:∃ac,ac=(am' a l).2.2:=⟨_,rfl⟩;rw[<-G,<-ab,<-ad]at z ⊢;rw[<-G]at D;generalize ct+skW a l=av at z ⊢;generalize n - skW a l=ax at z ⊢;have aj:=sd' F r;have ak:=y' (And.intro r D);clear F r D G ab ad Q V hs O;unfold A' at c0 z;show Calls Tryz.prog _ #[.pointer (some ⟨v,0,none⟩),bs] w _;go_enter Tryz.func15,Tryz.ntmps15;go_wp2_with (go_at_call 44;refine(i' z).mono ?_;rintro X y ⟨lv,fs,x,rfl,k1,k2,k3⟩;replace k1:=y' k1;replace k2:=y' k2;replace k3:=y' k3);go_ret2;obtain⟨ao,ap,⟨c2,K,H,N,ay,az⟩,aq,au⟩:=i' k1;obtain⟨r,D⟩:=i' ak;have I:=H.blk r aj;have J:=i' k2;refine⟨lv,fs,fun k=>k=v\/PkU p c2 k,rfl,(i' k3).up H.size ?_,⟨p,ao,ap,c2,(J.block _ (lt_of_block I)).trans I,K.far (C' (E:=fun _=>False) J) (fun _ _ h=>h),aq,au,D,rfl⟩,?_,?_⟩
 ·rintro k (rfl|M)
  ·exact lt_of_block I
  ·exact K.lt k M
 ·exact(H.mono (fun k _ h=> .inr h)).trans (C' (E:=fun _=>False) J) (fun _ _ h=>h.elim)
 ·rintro k (rfl|M)
  ·exact .inl (.inl rfl)
  ·exact(N k M).imp .inr id
theorem mT' (bs:Value) (l:List UInt8) (h:gb' op ct n w v a U) (J:ct+1000 < 18446744073709551616) (V:aw' a) (M:ab' w bs l) (O:1<=n/\n<=skW a l):
  Calls Tryz.prog 15 #[A' v,bs] w fun Q w'=>
   ∃lv fs U',Q= .returned (.tuple #[lv, .int .i64 4])/\Q' w.heap.size w' lv fs [] U'/\oQ' op w' v a.epoch (iE' a l n) U'/\Far U w w'/\∀k,U' k->U k\/w.heap.size<=k:=by
 obtain⟨p,sh,st,c,r,D,hs,X,Y,rfl⟩:=h;have c0:w.cell? ⟨v,0,none⟩=some (A' p):=t' (i:=0) r;have z:=y' (ky' D hs J V Y X bs l M O);generalize iE' a l n=lg at z ⊢;generalize Z:a.epoch=ep at z ⊢;have aa:=sd' D r;have ab:=y' r;clear D r M O hs J Z;unfold A' at c0 z;show Calls Tryz.prog _ #[.pointer (some ⟨v,0,none⟩),bs] w _;go_enter Tryz.func15,Tryz.ntmps15;go_wp2_with (go_at_call 44;refine(i' z).mono ?_;rintro Q y ⟨lv,fs,x,rfl,k1,k2,k3⟩;replace k1:=y' k1;replace k2:=y' k2;replace k3:=y' k3);go_ret2;obtain⟨ac,ad,⟨c2,K,F,N,ai,aj⟩,ah⟩:=i' k1;have r:=i' ab;have G:=F.blk r aa;have H:=i' k2;refine⟨lv,fs,fun k=>k=v\/PkU p c2 k,rfl,(i' k3).up F.size ?_,⟨p,ac,ad,c2,(H.block _ (lt_of_block G)).trans G,K.far (C' (E:=fun _=>False) H) (fun _ _ h=>h),ah,rfl⟩,?_,?_⟩
 ·rintro k (rfl|I)
  ·exact lt_of_block G
  ·exact K.lt k I
 ·exact(F.mono (fun k _ h=> .inr h)).trans (C' (E:=fun _=>False) H) (fun _ _ h=>h.elim)
 ·rintro k (rfl|I)
  ·exact .inl (.inl rfl)
  ·exact(N k I).imp .inr id
theorem uo' (bs:Value) (h:oQ' op w v e lg U):Calls Tryz.prog 15 #[A' v,bs] w fun r w'=>r= .returned (.tuple #[.slice none 0 0, .int .i64 3])/\w'=w:=by
 obtain⟨p,sh,st,c,z,D,hs,rfl⟩:=h;have c0:w.cell? ⟨v,0,none⟩=some (A' p):=t' (i:=0) z;have F:=y' (jx' D hs.dead bs);clear D z;unfold A' at c0 F;show Calls Tryz.prog _ #[.pointer (some ⟨v,0,none⟩),bs] w _;go_enter Tryz.func15,Tryz.ntmps15;go_wp2_with (go_at_call 44;refine(i' F).mono ?_;rintro r y ⟨rfl,rfl⟩);go_ret2;exact⟨rfl,rfl⟩
theorem wO' (h:gb' op ct n w v a U):Calls Tryz.prog 27 #[A' v] w fun r w'=>r= .returned (.int .i64 a.epoch)/\w'=w:=by
 obtain⟨p,sh,st,c,z,D,hs,G,H,rfl⟩:=h;have c0:w.cell? ⟨v,0,none⟩=some (A' p):=t' (i:=0) z;have F:=y' (mE' D);clear D z;unfold A' at *;go_enter Tryz.func27,Tryz.ntmps27;go_wp2_with (go_at_call 55;refine(i' F).mono ?_;rintro r y ⟨rfl,rfl⟩);go_ret;exact⟨rfl,rfl⟩
theorem xV' (i:Int) (h:gb' op ct n w v a U):Calls Tryz.prog 17 #[A' v, .int .i64 i] w fun r w'=>
   ∃lv,r= .returned lv/\w'.ownsRow w.heap.size 9 1 lv (hE' a i).length (aV' (hE' a i))/\Below w.heap.size w w':=by
 obtain⟨p,sh,st,c,z,D,hs,H,I,rfl⟩:=h;have c0:w.cell? ⟨v,0,none⟩=some (A' p):=t' (i:=0) z;have F:=y' (oP' D hs.dead i);unfold hE';obtain⟨xs,G⟩:∃xs,xs=if 0<=i/\i < 3 then a.logs i.toNat else []:=⟨_,rfl⟩
 rw[<-G]at F ⊢;clear D z G;unfold A' at *;go_enter Tryz.func17,Tryz.ntmps17;go_wp2_with (go_at_call 46;refine(i' F).mono ?_;rintro r y ⟨lv,rfl,k1,k2⟩;replace k1:=y' k1;replace k2:=y' k2);go_ret;exact⟨lv,rfl,i' k1,i' k2⟩
theorem tk' {p:Nat} {sh:Nat->List (Nat×Value)} {st:Mod.Stv} {c:Sv} (r:w.heap[v]? =some (.cells #[A' p] 79 (0,0))) (z:aN' w p e lg sh st c) (m:Int) (D:m<=9223372036854775807):
  Calls Tryz.prog 12 #[A' v, .int .i64 m] w fun F w'=>F= .returned (.tuple #[])/\w'.heap[v]? =some (.cells #[A' p] 79 (0,0))/\aN' w' p e lg sh {st with dk:={st.dk with armed:=m.toNat}} c/\Far (fun k=>k=v\/PkU p c k) w w':=by
 have c0:w.cell? ⟨v,0,none⟩=some (A' p):=t' (i:=0) r;have H:=y' (qL' z m D);have I:=sd' z r;have J:=y' r;clear z r D;unfold A' at *;go_enter Tryz.func12,Tryz.ntmps12;go_wp2_with (go_at_call 42;refine(i' H).mono ?_;rintro F y ⟨rfl,k1,k2⟩;replace k1:=y' k1;replace k2:=y' k2);have G:=i' k2;exact bodyPost_end (results_none rfl _ _ _) rfl ⟨rfl,G.blk (i' J) (fun e=>I (by rw[e];exact .inr (.inl (.inr (.inl rfl))))),i' k1,G.mono (fun k _ e=> .inr (by rw[e];exact .inr (.inl (.inr (.inl rfl)))))⟩
theorem xe' (m:Int) (h:gb' op ct n w v a U) (z:m<=9223372036854775807):Calls Tryz.prog 12 #[A' v, .int .i64 m] w fun r w'=>r= .returned (.tuple #[])/\gb' op ct m.toNat w' v a U/\Far U w w':=by
 obtain⟨p,sh,st,c,D,F,hs,G,H,rfl⟩:=h;refine(tk' D F m z).mono ?_;rintro r y ⟨rfl,k1,k2,k3⟩;exact⟨rfl,⟨p,sh,_,c,k1,k2,⟨hs.dead,rfl,hs.op,hs.ct,hs.dk⟩,G,H,rfl⟩,k3⟩
theorem xW' (m:Int) (h:oQ' op w v e lg U) (z:m<=9223372036854775807):Calls Tryz.prog 12 #[A' v, .int .i64 m] w fun r w'=>r= .returned (.tuple #[])/\oQ' op w' v e lg U/\Far U w w':=by
 obtain⟨p,sh,st,c,D,F,hs,rfl⟩:=h;refine(tk' D F m z).mono ?_;rintro r y ⟨rfl,k1,k2,k3⟩;exact⟨rfl,⟨p,sh,_,c,k1,k2,⟨hs.dead,hs.op,hs.dk⟩,rfl⟩,k3⟩
theorem xX' (h:gb' op ct n w v a U):∃ (L:List UInt8) (c2 hd:Nat),Mod.SkDisk L op c2 hd a.epoch a.logs/\∀x,Below w.heap.size w x->∀r:Int,
  Calls Tryz.prog 28 #[A' v, .int .u64 r] x fun G y=>∃z,G= .returned z/\ax' x.heap.size y z L/\Below x.heap.size x y:=by
 obtain⟨p,sh,st,c,D,H,hs,I,J,rfl⟩:=h;refine⟨st.dk.bytes,st.count,st.head,by rw[<-hs.op];exact hs.dk,fun x F r=>?_⟩;exact nA' ((F.block _ (lt_of_block D)).trans D) (H.far (E:=fun _=>False) (C' F) (fun _ _ e=>e)) r
theorem xf' (h:oQ' op w v e lg U):∃ (L:List UInt8) (c2 hd:Nat),Mod.SkDisk L op c2 hd e lg/\∀x,Below w.heap.size w x->∀r:Int,
  Calls Tryz.prog 28 #[A' v, .int .u64 r] x fun G y=>∃z,G= .returned z/\ax' x.heap.size y z L/\Below x.heap.size x y:=by
 obtain⟨p,sh,st,c,D,H,hs,rfl⟩:=h;obtain⟨c2,hd,I⟩:=hs.dk;refine⟨st.dk.bytes,c2,hd,by rw[<-hs.op];exact I,fun x F r=>?_⟩;exact nA' ((F.block _ (lt_of_block D)).trans D) (H.far (E:=fun _=>False) (C' F) (fun _ _ e=>e)) r
end
theorem oR' {L:List UInt8} {op ct hd e:Nat} {lg:Nat->List ByteArray} (h:Mod.SkDisk L op ct hd e lg) (D:op<=1073741824):
  ∃ (r:Mod.Hd) (at':Nat) (rs:List Mod.Rc),Mod.openSt L=some (r,at',rs)/\r.o=op/\r.a=e/\r.b=0/\r.d=0/\Mod.skLd rs 0 (fun _=>[])=some lg:=by
 obtain⟨G,at',rs,F,H,I,J,Y,M⟩:=Mod.skLoad_some (h.loads D);obtain⟨O,Z,aa,ab,ac,Q⟩:=h.rcs;obtain⟨c,U⟩:=h.ok.opens D (fun x=>O.getD x Mod.rc0) (fun x V=>Q x V);have z:=U;rw[F]at z;injection z with z;injection z with X _;exact⟨G,at',rs,F,by rw[X],J.symm,H,I,M⟩
theorem sq' {L:List UInt8} {h:Mod.Hd} {at':Nat} {rs:List Mod.Rc} {lg:Nat->List ByteArray} (r:Mod.openSt L=some (h,at',rs)) (z:h.b=0) (hd:h.d=0) (hl:Mod.skLd rs 0 (fun _=>[])=some lg) (D:L.length=7808):
  Alv (h.o+1) 1 0 (cD' L h at') h.a lg:=
 ⟨rfl,rfl,rfl,Nat.le_refl _,Mod.skDisk_opened (a:={epoch:=h.a,logs:=lg,held:=[]}) r z hd hl D⟩
theorem sr' (e:Nat) (lg:Nat->List ByteArray):aR' {epoch:=e,logs:=lg,held:=[]}:=⟨fun h r=>by simp at r,fun _ s _ b z=>by simp at z⟩
theorem nH' {w:World} (bs:Value) (L:List UInt8) (O:ab' w bs L) (G:L.length=7808) {h:Mod.Hd} {at':Nat} {rs:List Mod.Rc} {lg:Nat->List ByteArray} (H:Mod.openSt L=some (h,at',rs)) (I:h.b=0) (hd0:h.d=0) (hl:Mod.skLd rs 0 (fun _=>[])=some lg):
  Calls Tryz.prog 25 #[bs] w fun z w'=>
   ∃v Q,z= .returned (.tuple #[A' v, .int .i64 0])/\gb' (h.o+1) 1 0 w' v {epoch:=h.a,logs:=lg,held:=[]} Q/\Below w.heap.size w w'/\∀k,Q k->w.heap.size<=k:=by
 have J:Hid (Calls Tryz.prog 53 #[bs] w fun z w'=>∃p c,z= .returned (.tuple #[A' p, .int .i64 0])/\aN' w' p h.a lg (fun _=>[]) (cD' L h at') c/\Below w.heap.size w w'/\∀k,PkU p c k->w.heap.size<=k):=by
  refine(mR' w bs L O G H).mono ?_;rintro z y (⟨h1|h1,_⟩|⟨_,_,V,p,c,D,rfl,k1,k2,k3⟩)
  ·exact absurd ⟨I,hd0⟩ h1
  ·rw[hl]at h1;cases h1
  ·rw[hl]at D;injection D with D;subst D;exact⟨p,c,rfl,k1,k2,k3⟩
 have F:=y' (sq' H I hd0 hl G);clear O H I hd0 hl G;generalize cD' L h at'=st at J F;generalize h.o+1=op1 at F ⊢;generalize h.a=ep at J F ⊢;unfold A' at *;go_enter Tryz.func25,Tryz.ntmps25;go_wp2_with (go_at_call 53;refine(i' J).mono ?_;rintro z y ⟨p,c,rfl,K,r,M⟩;replace K:=y' K;replace r:=y' r;replace M:=y' M);go_ret2;have r:=i' r;refine⟨y.heap.size,_,rfl,⟨p,_,st,c,heap_alloc_new _ _,(i' K).far (C' (E:=fun _=>False) ((Below.refl _ _).alloc (Nat.le_refl _) _)) (fun _ _ h=>h),i' F,vi',sr' _ _,rfl⟩,r.alloc r.size _,?_⟩;rintro k (rfl|U)
 ·exact r.size
 ·exact(i' M) k U
theorem xG' {w:World} (bs:Value) (L:List UInt8) {op c2 hd e:Nat} {lg:Nat->List ByteArray} (D:ab' w bs L) (r:Mod.SkDisk L op c2 hd e lg) (F:op<=1073741824):
  Calls Tryz.prog 25 #[bs] w fun G w'=>
   ∃v z,G= .returned (.tuple #[A' v, .int .i64 0])/\gb' (op+1) 1 0 w' v {epoch:=e,logs:=lg,held:=[]} z/\Below w.heap.size w w'/\∀k,z k->w.heap.size<=k:=by
 obtain⟨U,at',rs,H,I,J,M,O,Q⟩:=oR' r F;subst I J;exact nH' bs L D r.ok.len H M O Q
theorem ka' {w:World} (bs:Value) (z:ab' w bs (List.replicate 7808 0)):
  Calls Tryz.prog 25 #[bs] w fun D w'=>
   ∃v r,D= .returned (.tuple #[A' v, .int .i64 0])/\gb' 1 1 0 w' v {epoch:=0,logs:=fun _=>[],held:=[]} r/\Below w.heap.size w w'/\∀k,r k->w.heap.size<=k:=by
 have F:=Mod.openSt_nought 122 (by omega);refine nH' bs _ z (by rw[List.length_replicate]) F rfl rfl ?_;have:((List.range (122 - 2)).map fun _=>Mod.rc0)=List.replicate 120 Mod.rc0:=by rw[List.map_const'];simp
 rw[this];exact Mod.skLd_zero 120 0 _
theorem oS' (a:Mod.Sk) {s:Nat} (hs:s < 3) (r:List ByteArray):(bB' a s r).count=a.count+r.length/\(bB' a s r).epoch=a.epoch:=by
 refine⟨?_,rfl⟩;obtain rfl|rfl|rfl:s=0\/s=1\/s=2:=by omega
 all_goals
  simp[bB',grown,Mod.Sk.forget,Mod.Sk.count];omega
theorem mU' (a:Mod.Sk) {s:Nat} (hs:s < 3) (q:Nat) (b:ByteArray):(ak' a 3 a.epoch s q b).count=a.count+(a.commits 3 a.epoch s q b).length/\(ak' a 3 a.epoch s q b).epoch=a.epoch:=by
 unfold ak';split
 ·rename_i h;rw[h];refine⟨?_,dC' _ _ _ _⟩;unfold Mod.Sk.count;rw[fM'];rfl
 ·exact oS' a hs _
theorem vJ' (a:Mod.Sk) (l:List UInt8):a.count+a.epoch+skW a l<=(am' a l).2.1.count+(am' a l).2.1.epoch:=by
 cases r:Wire.reads l
 ·rw[eO' r,oO' r];exact Nat.le_refl _
 ·obtain⟨k,e,s,q,b,h1,h2,h3,h4,h5,g1,g2,G,H⟩:=bK' r;rw[db' r h1 h2 h3 h4 h5,(iF' r h1 h2 h3 h4 h5).1];unfold bI' sp';by_cases k1:k=1
  ·simp only[if_pos k1];by_cases D:(e:Int) < a.epoch
   ·simp only[if_pos D];exact Nat.le_refl _
   ·simp only[if_neg D];have F:(e:Int).toNat=e:=by omega
    rw[F];have h1:(bc' a e).epoch=e:=rfl;have h2:(bc' a e).count=a.count:=rfl;rw[h1,h2];unfold hiW;split <;> omega
  ·simp only[if_neg k1];by_cases k3:k=3
   ·simp only[if_pos k3];by_cases z:(e:Int)=a.epoch
    ·simp only[if_pos z];subst k3;rw[z];obtain⟨c1,c2⟩:=mU' a g2 q b;rw[c1,c2];omega
    ·simp only[if_neg z];exact Nat.le_refl _
   ·simp only[if_neg k3];exact Nat.le_refl _
theorem qN' {N:Nat} {a:Mod.Ag} (r:aL' N a) (D:a.epoch+1<=2147483647):aL' N (Mod.reop a):=by
 refine⟨D,Nat.zero_le _,fun s hs=>?_,fun s hs x z=>?_⟩
 ·have:=r.sum s hs;simp only[Mod.reop,if_pos hs,List.length_map];exact this
 ·simp only[Mod.reop,if_pos hs,List.mem_map]at z;obtain⟨y,F,rfl⟩:=z;exact⟨(r.bod s hs y F).1,Nat.zero_le _⟩
section
end
theorem Q'.off {B:Nat} {w:World} {lv:Value} {fs:List Value} {r:List ByteArray} {z:Nat->Prop} (h:Q' B w lv fs r z):Q' B w lv fs r (fun _=>False):=⟨h.len,h.row,h.each,h.apart,fun _ _ e=>e⟩
theorem kb' {a:Mod.Sk} (z:aw' a) (l:List UInt8):aw' (am' a l).2.1:=by
 unfold am';cases F:Wire.reads l
 ·exact z
 ·rw[if_pos rfl];have r:=F;unfold Wire.reads at r;rw[Bool.and_eq_true]at r;have D:=ci' r.2;exact fc' z _ _ _ _ _ (by have:=D.2.2.1;omega) D.2.1.2
theorem qO' {N:Nat} {a:Mod.Ag} (r:aL' N a) (l:List UInt8):aL' N (aB' a l).2:=by
 unfold aB';split
 ·exact fO' r _ _ _ _ _
 ·exact r
def vK' (B:Nat) (r:Nat->Prop) (x y:World):Prop:=Far (fun j=>B<=j/\¬r j) x y
structure cE' {top:Nat} (C:jf' top) (D:uV') (B N:Nat) (x:World) (va vs:Nat) (a:Mod.Ag) (k:Mod.Sk) (G:Nat->Prop):Prop where
 all:∃ (U V:Nat->Prop),C.At x va a U/\D.At x vs k V/\(∀j,U j->¬V j)/\(∀j,U j->B<=j)/\(∀j,V j->B<=j)/\(∀j,G j->j < x.heap.size/\¬U j/\¬V j)
 ga:aL' N a
 gk:aw' k
 bx:B<=x.heap.size
section
variable {top:Nat} {C:jf' top} {D:uV'} {B N:Nat} {x y:World} {va vs:Nat} {a:Mod.Ag} {k:Mod.Sk} {G:Nat->Prop}
theorem cE'.far {E:Nat->Prop} (h:cE' C D B N x va vs a k G) (hF:Far E x y) (z:∀j,E j->G j\/j < B):cE' C D B N y va vs a k G:=by
 obtain⟨F,H,h1,h2,h3,h4,h5,r⟩:=h.all;refine⟨⟨F,H,C.far h1 hF (fun j hu e=>?_),D.far h2 hF (fun j hu e=>?_),h3,h4,h5,fun j hj=>⟨Nat.lt_of_lt_of_le (r j hj).1 hF.size,(r j hj).2⟩⟩,h.ga,h.gk,Nat.le_trans h.bx hF.size⟩
 ·rcases z j e with e|e
  ·exact(r j e).2.1 hu
  ·have:=h4 j hu;omega
 ·rcases z j e with e|e
  ·exact(r j e).2.2 hu
  ·have:=h5 j hu;omega
theorem cE'.below (h:cE' C D B N x va vs a k G) (r:Below x.heap.size x y):cE' C D B N y va vs a k G:=h.far (E:=fun _=>False) (C' r) (fun _ e=>e.elim)
theorem cE'.mono {r:Nat->Prop} {z:Nat} (h:cE' C D B N x va vs a k G) (F:∀j,r j->G j) (H:N<=z):cE' C D B z x va vs a k r:=by
 obtain⟨I,J,h1,h2,h3,h4,h5,M⟩:=h.all;exact⟨⟨I,J,h1,h2,h3,h4,h5,fun j hj=>M j (F j hj)⟩,h.ga.mono H,h.gk,h.bx⟩
theorem cE'.more (h:cE' C D B N x va vs a k G) (r:Below x.heap.size x y):cE' C D B N y va vs a k (fun j=>G j\/(x.heap.size<=j/\j < y.heap.size)):=by
 have H:=h.below r;obtain⟨I,J,h1,h2,h3,h4,h5,z⟩:=h.all;have hu:=C.lt h1;have M:=D.lt h2;have F:Far (fun _=>False) x y:=C' r;refine⟨⟨I,J,C.far h1 F (fun _ _ e=>e),D.far h2 F (fun _ _ e=>e),h3,h4,h5,fun j hj=>?_⟩,h.ga,h.gk,H.bx⟩;rcases hj with hj|hj
 ·exact⟨Nat.lt_of_lt_of_le (z j hj).1 r.size,(z j hj).2⟩
 ·exact⟨hj.2,fun e=>by have:=hu j e;omega,fun e=>by have:=M j e;omega⟩
theorem cE'.hear (h:cE' C D B N x va vs a k G) (I:N < top) (bs:Value) (l:List UInt8) (J:ab' x bs l):
  Calls Tryz.prog 16 #[A' va,bs] x fun F y=>F= .returned (.int .i64 (aB' a l).1)/\cE' C D B N y va vs (aB' a l).2 k G/\vK' B G x y:=by
 obtain⟨Q,M,h1,h2,h3,h4,h5,z⟩:=h.all;have O:=D.lt h2;refine(C.deliver bs l h1 h.ga I J).mono ?_;rintro F y ⟨U',rfl,k1,k2,k3⟩;have H:=k2.size;have hu:=C.lt k1;refine⟨rfl,⟨⟨U',M,k1,D.far h2 k2 (fun j hj e=>h3 j e hj),fun j hj e=>?_,fun j hj=>?_,h5,fun j hj=>⟨Nat.lt_of_lt_of_le (z j hj).1 H,fun e=>?_,(z j hj).2.2⟩⟩,qO' h.ga l,h.gk,Nat.le_trans h.bx H⟩,k2.mono (fun j _ e=>⟨h4 j e,fun g=>(z j g).2.1 e⟩)⟩
 ·rcases k3 j hj with r|r
  ·exact h3 j r e
  ·have:=O j e;omega
 ·rcases k3 j hj with r|r
  ·exact h4 j r
  ·have:=h.bx;omega
 ·rcases k3 j e with r|r
  ·exact(z j hj).2.1 r
  ·have:=(z j hj).1;omega
theorem cE'.tick (h:cE' C D B N x va vs a k G) (M:N < top):
  Calls Tryz.prog 13 #[A' va] x fun H y=>∃lv fs,H= .returned lv/\Q' x.heap.size y lv fs (a.tick.2.map fun l=>⟨l.toArray⟩) (fun _=>False)/\cE' C D B (N+1) y va vs a.tick.1 k (fun j=>G j\/eE' lv fs j)/\vK' B G x y:=by
 obtain⟨Q,O,h1,h2,h3,h4,h5,z⟩:=h.all;have I:=D.lt h2;refine(C.tick h1 h.ga M).mono ?_;rintro H y ⟨lv,fs,U',rfl,F,k1,k2,k3⟩;have J:=k2.size;have hu:=C.lt k1;refine⟨lv,fs,rfl,F.off,⟨⟨U',O,k1,D.far h2 k2 (fun j hj e=>h3 j e hj),fun j hj e=>?_,fun j hj=>?_,h5,fun j hj=>?_⟩,jQ' h.ga,h.gk,Nat.le_trans h.bx J⟩,k2.mono (fun j _ e=>⟨h4 j e,fun g=>(z j g).2.1 e⟩)⟩
 ·rcases k3 j hj with r|r
  ·exact h3 j r e
  ·have:=I j e;omega
 ·rcases k3 j hj with r|r
  ·exact h4 j r
  ·have:=h.bx;omega
 ·rcases hj with hj|hj
  ·refine⟨Nat.lt_of_lt_of_le (z j hj).1 J,fun e=>?_,(z j hj).2.2⟩;rcases k3 j e with r|r
   ·exact(z j hj).2.1 r
   ·have:=(z j hj).1;omega
  ·have hl:=F.lt j hj;exact⟨hl.2,F.clear j hj,fun e=>by have:=I j e;omega⟩
theorem cE'.take (h:cE' C D B N x va vs a k G) (bs:Value) (l:List UInt8) (J:ab' x bs l):
  Calls Tryz.prog 15 #[A' vs,bs] x fun H y=>∃lv fs,H= .returned (.tuple #[lv, .int .i64 (am' k l).1])/\Q' x.heap.size y lv fs (am' k l).2.2 (fun _=>False)/\cE' C D B N y va vs a (am' k l).2.1 (fun j=>G j\/eE' lv fs j)/\vK' B G x y:=by
 obtain⟨M,Q,h1,h2,h3,h4,h5,z⟩:=h.all;have hu:=C.lt h1;refine(D.deliver bs l h2 h.gk J).mono ?_;rintro H y ⟨lv,fs,O,rfl,F,k1,k2,k3⟩;have I:=k2.size;refine⟨lv,fs,rfl,F.off,⟨⟨M,O,C.far h1 k2 (fun j hj e=>h3 j hj e),k1,fun j hj e=>?_,h4,fun j hj=>?_,fun j hj=>?_⟩,h.ga,kb' h.gk l,Nat.le_trans h.bx I⟩,k2.mono (fun j _ e=>⟨h5 j e,fun g=>(z j g).2.2 e⟩)⟩
 ·rcases k3 j e with r|r
  ·exact h3 j hj r
  ·have:=hu j hj;omega
 ·rcases k3 j hj with r|r
  ·exact h5 j r
  ·have:=h.bx;omega
 ·rcases hj with hj|hj
  ·refine⟨Nat.lt_of_lt_of_le (z j hj).1 I,(z j hj).2.1,fun e=>?_⟩;rcases k3 j e with r|r
   ·exact(z j hj).2.2 r
   ·have:=(z j hj).1;omega
  ·have hl:=F.lt j hj;exact⟨hl.2,fun e=>by have:=hu j e;omega,F.clear j hj⟩
theorem cE'.spool (h:cE' C D B N x va vs a k G) (i:Int):
  Calls Tryz.prog 18 #[A' va, .int .i64 i] x fun r y=>∃lv,r= .returned lv/\y.ownsRow x.heap.size 9 1 lv (aG' a i).length (aV' (aG' a i))/\cE' C D B N y va vs a k (fun j=>G j\/(x.heap.size<=j/\j < y.heap.size))/\Below x.heap.size x y:=by
 obtain⟨z,F,h1,_⟩:=h.all;refine(C.spool i h1).mono ?_;rintro r y ⟨lv,rfl,k1,k2⟩;exact⟨lv,rfl,k1,h.more k2,k2⟩
theorem cE'.log (h:cE' C D B N x va vs a k G) (i:Int):
  Calls Tryz.prog 17 #[A' vs, .int .i64 i] x fun r y=>∃lv,r= .returned lv/\y.ownsRow x.heap.size 9 1 lv (hE' k i).length (aV' (hE' k i))/\cE' C D B N y va vs a k (fun j=>G j\/(x.heap.size<=j/\j < y.heap.size))/\Below x.heap.size x y:=by
 obtain⟨z,F,_,h2,_⟩:=h.all;refine(D.log i h2 h.gk).mono ?_;rintro r y ⟨lv,rfl,k1,k2⟩;exact⟨lv,rfl,k1,h.more k2,k2⟩
end
theorem mV' {H:Nat} (C:jf' H) (w:World):
  Calls Tryz.prog 33 #[] w fun D y=>∃v r,D= .returned (A' v)/\C.At y v {epoch:=1,ticks:=0,welcome:=false,fenced:=false,fl:=fun _=>{base:=0,kept:=[],held:=[]}} r/\Below w.heap.size w y/\∀j,r j->w.heap.size<=j:=by
 go_enter Tryz.func33,Tryz.ntmps33;go_wp2_with (at_make;refine eT' rfl _ _ rfl w.heap.size _ _ _ _ 1664 rfl rfl rfl rfl (by omega) (Nat.le_refl _) ?_;intro O F G;have I:=y' (ac' (B:=w.heap.size) G (Nat.le_refl _) (by simp));have J:=y' (ax'.at F);clear F G);refine(C.opened _ (i' J)).mono ?_;rintro D y ⟨v,r,rfl,k1,k2,k3⟩;have M:=y' (And.intro k1 (And.intro k2 k3));clear k1 k2 k3;unfold A';go_wp2;go_ret;obtain⟨k1,k2,k3⟩:=i' M;have z:=i' I;exact⟨v,r,rfl,k1,z.trans (k2.mono z.size),fun j hj=>Nat.le_trans z.size (k3 j hj)⟩
theorem cq' (c:Int) (n:Nat) (w:World) (F: -9223372036854775808<=c/\c<=9223372036854775807) (G:0 < n) (H:n<=100000000):
  Calls Tryz.prog 36 #[.int .i64 c, .int .i64 n] w fun z w'=>z= .returned (.int .i64 (bQ' c n))/\w'=w:=by
 have D:¬ (n:Int)=0:=by omega
 have I:¬ (n:Int)= -1:=by omega
 have J:((n:Int) ==0)=false:=by simp;omega
 have r:Hid ((bQ' c n:Int)=(if c < 0 then -(c+1)else c) % (n:Int)):=by have h2:=Int.emod_nonneg (if c < 0 then -(c+1)else c) D;unfold bQ';show _= _;omega
 generalize bQ' c n=j at r;obtain⟨d,hd⟩:∃d,d=if c < 0 then -(c+1)else c:=⟨_,rfl⟩
 rw[<-hd]at r;have hd0:0<=d/\d<=9223372036854775807:=by rw[hd];split <;> omega
 by_cases h:c < 0
 ·rw[if_pos h]at hd;have M:IntKind.i64.wrap (c+1)=c+1:=by rw[IntKind.wrap_i64];omega
  have O:IntKind.i64.wrap (-(c+1))=d:=by rw[IntKind.wrap_i64];omega
  clear hd;go_enter Tryz.func36,Tryz.ntmps36;go_wp2;go_ret;exact⟨sR' (i' r).symm,rfl⟩
 ·rw[if_neg h]at hd;subst hd;go_enter Tryz.func36,Tryz.ntmps36;go_wp2;go_ret;exact⟨sR' (i' r).symm,rfl⟩
def iH' (n:Nat):List UInt8:=if n < 10 then [UInt8.ofNat (48+n)]else iH' (n / 10)++[UInt8.ofNat (48+n % 10)]
def gc' (n:Nat):ByteArray:=⟨(iH' n).toArray⟩
theorem qP':∀ (k n:Nat),n < 10 ^ (k+1)->(iH' n).length<=k+1
 |0,n,h=>by rw[iH',if_pos (by simpa using h)];simp
 |k+1,n,h=>by
  rw[iH'];split
  ·simp
  ·have:=qP' k (n / 10) (by rw[Nat.pow_succ]at h;omega);simp;omega
theorem jy' {n:Nat} (h:n < 10000000000):(gc' n).size<=10:=by
 have:=qP' 9 n (by omega);simpa[gc',ByteArray.size]using this
theorem wP' (n:Nat):gc' n=if n < 10 then⟨#[UInt8.ofNat (48+n % 10)]⟩else gc' (n / 10)++⟨#[UInt8.ofNat (48+n % 10)]⟩:=by
 unfold gc';conv=>lhs;rw[iH']
 split
 ·rename_i h;rw[Nat.mod_eq_of_lt h]
 ·apply ByteArray.ext;simp
theorem lT' (n:Nat) (w:World) (Q:n<=1000000000):Calls Tryz.prog 35 #[.int .i64 n] w fun r y=>r= .returned (.string (gc' n))/\Below w.heap.size w y:=by
 have ih:¬n < 10->∀x,Hid (Calls Tryz.prog 35 #[.int .i64 (n / 10:Nat)] x fun r y=>r= .returned (.string (gc' (n / 10)))/\Below x.heap.size x y):=fun h x=>lT' (n / 10) x (by omega);have I:(convert 48 9 (.slice (some ⟨w.heap.size,0,none⟩) 1 1)).run Tryz.prog (w.alloc (.cells #[.int .u8 (48+(n:Int) % 10)] 5))= .ok (.string ⟨#[UInt8.ofNat (48+n % 10)]⟩) (w.alloc (.cells #[.int .u8 (48+(n:Int) % 10)] 5)):=
  fv' (l:=[UInt8.ofNat (48+n % 10)]) (b:=w.heap.size) (off:=0) (n:=1) (cap:=1) rfl (fun i hi=>by
   obtain rfl:i=0:=by omega
   rw[t' (heap_alloc_new w _)];simp only[List.getD_cons_zero,UInt8.toNat_ofNat'];have:((48+n % 10) % 2 ^ 8:Nat)=48+n % 10:=by omega
   rw[this];simp)
 have D:=y' ((Below.refl w.heap.size w).alloc (Nat.le_refl _) (.cells #[.int .u8 (48+(n:Int) % 10)] 5));have hd0:Hid (gc' n=if n < 10 then⟨#[UInt8.ofNat (48+n % 10)]⟩else gc' (n / 10)++⟨#[UInt8.ofNat (48+n % 10)]⟩):=wP' n;obtain⟨z,F⟩:∃z,z=UInt8.ofNat (48+n % 10):=⟨_,rfl⟩;rw[<-F]at I hd0;clear F;by_cases h:n < 10
 ·have hi:(n:Int) < 10:=by omega
  have hd:Hid (gc' n=⟨#[z]⟩):=(i' hd0).trans (if_pos h);clear ih;go_enter Tryz.func35,Tryz.ntmps35;go_wp2;go_ret;exact⟨by rw[i' hd];rfl,i' D⟩
 ·have hi:¬ (n:Int) < 10:=by omega
  have hd:Hid (gc' n=gc' (n / 10)++⟨#[z]⟩):=(i' hd0).trans (if_neg h);clear hd0;have ih:=ih h;have J:(gc' (n / 10)).size<=10:=jy' (by omega);generalize gc' (n / 10)=M at ih hd J;have U:¬9223372036854775807 < M.size+1:=by omega
  obtain⟨m,G⟩:∃m,m=n / 10:=⟨_,rfl⟩;rw[<-G]at ih;have V:(n:Int).tdiv 10=(m:Int):=by rw[Int.tdiv_eq_ediv_of_nonneg (by omega)];omega
  have X:(n:Int) / 10=(m:Int):=by omega
  have Y:IntKind.i64.wrap (m:Int)=(m:Int):=by rw[IntKind.wrap_i64];omega
  clear G;go_enter Tryz.func35,Tryz.ntmps35;go_wp2_with (go_at_call 35;refine(i' (ih _)).mono ?_;rintro r y ⟨rfl,H⟩;have O:=y' ((i' D).trans (H.mono (i' D).size));clear H);go_ret;exact⟨by rw[i' hd];rfl,i' O⟩
  termination_by n
  decreasing_by omega
theorem iI' {a b:ByteArray} (h:a≠b):(a.toList==b.toList)=false:=by
 rw[jI',jI'];cases r:(a.data.toList==b.data.toList)with
 |false=>rfl
 |true=>rw[beq_iff_eq]at r;exact absurd (by cases a;cases b;simp at r;rw[r]) h
theorem oT' (w:World) (v u:Value) (A B:List ByteArray) (ac:ha' w v (aV' A)) (hu:ha' w u (aV' B)) (av:A.length<=1000000000):
  Calls Tryz.prog 19 #[v,u] w fun ad y=>ad= .returned (.bool (decide (A=B)))/\∃q,y=w.drewN q:=by
 obtain⟨ax,ay,M,ah,az,D⟩:=ac;obtain⟨aA,aB,O,Q,aC,F⟩:=hu;rw[fz']at M ah D O Q F;subst M O;have ai:=y' D;have U:=y' F;clear D F;by_cases V:A.length=B.length
 ·rw[<-V]at U Q ⊢;have aj:((A.length:Int) != (A.length:Int))=false:=by simp
  go_enter Tryz.func19,Tryz.ntmps19;go_wp2;go_loopw[5] (fun i wr=>∃k:Nat,k<=A.length/\i= .int .i64 k/\A.take k=B.take k/\∃q,wr=w.drewN q) (fun i _=>A.length - (intOf i).toNat)
  case atStart=>exact⟨0,by omega,rfl,rfl,0,rfl⟩
  case round=>
   obtain⟨k,aD,rfl,r,q,rfl⟩:=hrel;by_cases z:k < A.length
   ·have X:k < B.length:=by omega
    obtain⟨g,o,rfl,_,Y⟩:=(i' ai) (by omega);obtain⟨g2,aE,rfl,_,Z⟩:=(i' U) (by omega);have aa:(aV' A)[k]? =some (.string A[k]):=by simp[aV',z]
    have ab:(aV' B)[k]? =some (.string B[k]):=by simp[aV',X]
    have ak:=(Y k z).trans aa;have ao:=(Z k z).trans ab;have ap:=y' r;have G:Hid (A[k]? =some A[k]):=List.getElem?_eq_getElem z;have H:Hid (B[k]? =some B[k]):=List.getElem?_eq_getElem X;clear Y Z aa ab r;generalize A[k]=I at ak G;generalize B[k]=aq at ao H;by_cases J:I=aq
    ·subst J;have au:(I.toList==I.toList)=true:=beq_self_eq_true _;go_wp2;go_quiet (fail);go_wp2;go_roundw
     case rel=>exact⟨k+1,by omega,by go_num,by rw[List.take_add_one,List.take_add_one,i' ap,i' G,i' H],q+nq,by simp⟩
     case measure=>simp[intOf];omega
    ·have au:=iI' J;have hd:decide (A=B)=false:=by rw[decide_eq_false_iff_not];intro e;have h1:=i' G;rw[e,i' H]at h1;injection h1 with h1;exact J h1.symm
     go_wp2;go_quiet (fail);go_wp2;go_ret;exact⟨by rw[hd];rfl,q+nq,by simp⟩
   ·have hd:decide (A=B)=true:=by rw[decide_eq_true_iff];rw[List.take_of_length_le (by omega),List.take_of_length_le (by omega)]at r;exact r
    go_wp2;go_ret;exact⟨by rw[hd];rfl,q,rfl⟩
 ·have hd:decide (A=B)=false:=by rw[decide_eq_false_iff_not];intro e;exact V (by rw[e])
  have aj:((A.length:Int) != (B.length:Int))=true:=by simp;omega
  go_enter Tryz.func19,Tryz.ntmps19;go_wp2;go_ret;exact⟨by rw[hd];rfl,0,rfl⟩
def AgE (d:Bool) (w:World) (v:Nat) (a:Mod.Ag) (r:Nat->Prop):Prop:=(d=false/\∃n,dw' n w v a r)\/(d=true/\iC' a.epoch w v a r)
def ss' (i:Int) (s:ByteArray) (d:Bool) (a:Mod.Ag) (e:Int) (r:Bool) (a':Mod.Ag):Prop:=
 (d=true/\e=3/\a'=a/\r=true)\/(d=false/\e=4/\a'=a/\r=true)\/(d=false/\e=a.refuses i s.size/\a'=aD' a i s/\r=false)
def vL' (l:List UInt8) (d:Bool) (a:Mod.Ag) (e:Int) (r:Bool) (a':Mod.Ag):Prop:=
 (d=true/\e=3/\a'=a/\r=true)\/(d=false/\e=4/\a'=a/\r=true/\0 < fj' a l)\/(d=false/\e=(aB' a l).1/\a'=(aB' a l).2/\r=false)
section
variable {d:Bool} {w w':World} {v N:Nat} {a:Mod.Ag} {U:Nat->Prop}
theorem AgE.lt (h:AgE d w v a U):∀k,U k->k < w.heap.size:=by
 rcases h with ⟨_,n,h⟩|⟨_,h⟩
 ·exact oI' h
 ·exact wC' h
theorem AgE.far {E:Nat->Prop} (h:AgE d w v a U) (r:Far E w w') (z:∀k,U k->¬E k):AgE d w' v a U:=by
 rcases h with ⟨e,n,h⟩|⟨e,h⟩
 ·exact .inl ⟨e,n,ea' h r z⟩
 ·exact .inr ⟨e,vE' h r z⟩
theorem AgE.submit (i:Int) (s:ByteArray) (h:AgE d w v a U) (z:aL' N a) (D:N < 1000000000):
  Calls Tryz.prog 22 #[A' v, .int .i64 i, .string s] w fun r w'=>
   ∃ (e:Int) (F:Bool) (a':Mod.Ag) (U':Nat->Prop),r= .returned (.int .i64 e)/\AgE F w' v a' U'/\Far U w w'/\(∀k,U' k->U k\/w.heap.size<=k)/\ss' i s d a e F a':=by
 rcases h with ⟨rfl,n,h⟩|⟨rfl,h⟩
 ·by_cases G:n≠1\/a.refuses i s.size≠0
  ·refine(lI' i s h z D G).mono ?_;rintro r w' ⟨U',rfl,k1,k2,k3⟩;exact⟨_,false,_,U',rfl, .inl ⟨rfl,_,k1⟩,k2,k3, .inr (.inr ⟨rfl,rfl,rfl,rfl⟩)⟩
  ·have h1:n=1:=by omega
   have h2:a.refuses i s.size=0:=by omega
   subst h1;refine(oK' i s h z D h2).mono ?_;rintro r w' ⟨U',rfl,k1,k2,k3⟩;exact⟨_,true,_,U',rfl, .inr ⟨rfl,k1⟩,k2,k3, .inr (.inl ⟨rfl,rfl,rfl,rfl⟩)⟩
 ·refine(oL' i s h).mono ?_;rintro r w' ⟨rfl,rfl⟩;exact⟨_,true,_,U,rfl, .inr ⟨rfl,h⟩,Far.refl _ _,fun _ H=> .inl H, .inl ⟨rfl,rfl,rfl,rfl⟩⟩
theorem AgE.deliver (bs:Value) (l:List UInt8) (h:AgE d w v a U) (z:aL' N a) (D:N < 1000000000) (F:ab' w bs l):
  Calls Tryz.prog 16 #[A' v,bs] w fun r w'=>
   ∃ (e:Int) (G:Bool) (a':Mod.Ag) (U':Nat->Prop),r= .returned (.int .i64 e)/\AgE G w' v a' U'/\Far U w w'/\(∀k,U' k->U k\/w.heap.size<=k)/\vL' l d a e G a':=by
 rcases h with ⟨rfl,n,h⟩|⟨rfl,h⟩
 ·by_cases H:n≠1\/fj' a l=0
  ·refine(nE' bs l h z D F H).mono ?_;rintro r w' ⟨U',rfl,k1,k2,k3⟩;exact⟨_,false,_,U',rfl, .inl ⟨rfl,_,k1⟩,k2,k3, .inr (.inr ⟨rfl,rfl,rfl,rfl⟩)⟩
  ·have h1:n=1:=by omega
   have h2:0 < fj' a l:=by omega
   subst h1;refine(mQ' bs l h z D F h2).mono ?_;rintro r w' ⟨U',rfl,k1,k2,k3⟩;exact⟨_,true,_,U',rfl, .inr ⟨rfl,k1⟩,k2,k3, .inr (.inl ⟨rfl,rfl,rfl,rfl,h2⟩)⟩
 ·refine(mO' bs h).mono ?_;rintro r w' ⟨rfl,rfl⟩;exact⟨_,true,_,U,rfl, .inr ⟨rfl,h⟩,Far.refl _ _,fun _ I=> .inl I, .inl ⟨rfl,rfl,rfl,rfl⟩⟩
def cu' (d:Bool) (a:Mod.Ag):Mod.Ag×List (List UInt8):=if d=true then({a with ticks:=a.ticks+1},[])else a.tick
theorem AgE.tick (h:AgE d w v a U) (D:aL' N a) (F:N < 1000000000):
  Calls Tryz.prog 13 #[A' v] w fun r w'=>
   ∃lv fs U',r= .returned lv/\Q' w.heap.size w' lv fs ((cu' d a).2.map fun l=>⟨l.toArray⟩) U'/\AgE d w' v (cu' d a).1 U'/\Far U w w'/\∀k,U' k->U k\/w.heap.size<=k:=by
 rcases h with ⟨rfl,n,h⟩|⟨rfl,h⟩
 ·refine(vF' h D F).mono ?_;rintro r w' ⟨lv,fs,U',rfl,k0,k1,k2,k3⟩;exact⟨lv,fs,U',rfl,k0, .inl ⟨rfl,n,k1⟩,k2,k3⟩
 ·refine(sn' h (by have:=D.tk;omega)).mono ?_;rintro r w' ⟨U',rfl,k1,k2,k3⟩;exact⟨_,[],U',rfl,(bM' _ _).apartU (fun k z=>by
   rcases z with z|⟨j,hj,_⟩
   ·cases z
   ·simp at hj), .inr ⟨rfl,k1⟩,k2,k3⟩
theorem AgE.spool (i:Int) (h:AgE false w v a U):Calls Tryz.prog 18 #[A' v, .int .i64 i] w fun r w'=>
  ∃lv,r= .returned lv/\w'.ownsRow w.heap.size 9 1 lv (aG' a i).length (aV' (aG' a i))/\Below w.heap.size w w':=by
 rcases h with ⟨_,n,h⟩|⟨e,_⟩
 ·exact ti' i h
 ·cases e
theorem AgE.arm (m:Int) (h:AgE d w v a U) (z:m<=9223372036854775807):Calls Tryz.prog 11 #[A' v, .int .i64 m] w fun r w'=>r= .returned (.tuple #[])/\AgE d w' v a U/\Far U w w':=by
 rcases h with ⟨rfl,n,h⟩|⟨rfl,h⟩
 ·refine(xd' m h z).mono ?_;rintro r w' ⟨rfl,k1,k2⟩;exact⟨rfl, .inl ⟨rfl,_,k1⟩,k2⟩
 ·refine(wH' m h z).mono ?_;rintro r w' ⟨rfl,k1,k2⟩;exact⟨rfl, .inr ⟨rfl,k1⟩,k2⟩
theorem AgE.img (h:AgE d w v a U):∃ (L:List UInt8) (c2 hd:Nat) (free:List Nat) (r:Nat->List Nat),Mod.AgDisk L a.epoch c2 hd a free r/\Mod.Places a free r/\∀x,Below w.heap.size w x->∀D:Int,
  Calls Tryz.prog 23 #[A' v, .int .u64 D] x fun F y=>∃z,F= .returned z/\ax' x.heap.size y z L/\Below x.heap.size x y:=by
 rcases h with ⟨rfl,n,h⟩|⟨rfl,h⟩
 ·exact xR' h
 ·exact(xD' h).2
theorem vM' (bs:Value) (L:List UInt8) {c2 hd:Nat} {free:List Nat} {r:Nat->List Nat} (D:ab' w bs L) (F:Mod.AgDisk L a.epoch c2 hd a free r) (P:Mod.Places a free r) (G:a.epoch<=1073741824) (H:∀i,i < 3->(a.fl i).base+(a.fl i).kept.length<=1073741824):
  Calls Tryz.prog 21 #[bs] w fun z w'=>∃v U,z= .returned (.tuple #[A' v, .int .i64 0])/\AgE false w' v (Mod.reop a) U/\Below w.heap.size w w'/\∀k,U k->w.heap.size<=k:=by
 refine(xF' bs L D F P G H).mono ?_;rintro z w' ⟨v,U,rfl,k1,k2,k3⟩;exact⟨v,U,rfl, .inl ⟨rfl,0,k1⟩,k2,k3⟩
end
def SkE (K:Nat) (d:Bool) (w:World) (v:Nat) (s:Mod.Sk) (r:Nat->Prop):Prop:=
 (d=false/\∃op ct n,op<=K+1/\ct<=1000 * (K+1)/\gb' op ct n w v s r)\/(d=true/\∃op,op<=K+1/\oQ' op w v s.epoch s.logs r)
def jz' (l:List UInt8) (d:Bool) (s:Mod.Sk) (e:Int) (r:Bool) (s':Mod.Sk) (z:List ByteArray):Prop:=
 (d=true/\e=3/\s'=s/\r=true/\z=[])\/(d=false/\e=4/\r=true/\z=[]/\∃n,1<=n/\n<=skW s l/\s'={epoch:=s.epoch,logs:=iE' s l n,held:=[]})\/
 (d=false/\e=(am' s l).1/\s'=(am' s l).2.1/\r=false/\z=(am' s l).2.2)
theorem oU' {L:List UInt8} {op c2 hd e:Nat} {lg:Nat->List ByteArray} (h:Mod.SkDisk L op c2 hd e lg):aw' {epoch:=e,logs:=lg,held:=[]}:=by
 obtain⟨D,F,r,_⟩:=h.rcs;exact⟨fun h z=>by simp at z,by simp,by show Mod.cnt lg<=120;exact r,h.ok.sm 0 (by omega)⟩
theorem vN' {a:Mod.Sk} (r:aw' a) (k e:Int) (s q:Nat) (b:ByteArray):sp' a k e s q b<=120:=by
 unfold sp' hiW;have:=hZ' (a:=a) 3 a.epoch s q b r.room;repeat' split
 all_goals omega
theorem xH' {a:Mod.Sk} (r:aw' a) (l:List UInt8):skW a l<=120:=by
 unfold skW;split
 ·exact vN' r _ _ _ _ _
 ·omega
section
variable {d:Bool} {w w':World} {v K:Nat} {s:Mod.Sk} {U:Nat->Prop}
theorem SkE.lt (h:SkE K d w v s U):∀k,U k->k < w.heap.size:=by
 rcases h with ⟨_,op,ct,n,_,_,h⟩|⟨_,op,_,h⟩
 ·exact tj' h
 ·exact wN' h
theorem SkE.far {E:Nat->Prop} (h:SkE K d w v s U) (r:Far E w w') (z:∀k,U k->¬E k):SkE K d w' v s U:=by
 rcases h with ⟨e,op,ct,n,h1,h2,h⟩|⟨e,op,h1,h⟩
 ·exact .inl ⟨e,op,ct,n,h1,h2,qM' h r z⟩
 ·exact .inr ⟨e,op,h1,vI' h r z⟩
theorem SkE.mono {K':Nat} (h:SkE K d w v s U) (hK:K<=K'):SkE K' d w v s U:=by
 rcases h with ⟨e,op,ct,n,h1,h2,h⟩|⟨e,op,h1,h⟩
 ·exact .inl ⟨e,op,ct,n,by omega,by omega,h⟩
 ·exact .inr ⟨e,op,by omega,h⟩
theorem SkE.deliver (bs:Value) (l:List UInt8) (h:SkE K d w v s U) (r:aw' s) (hK:K < 1000000000) (F:ab' w bs l):
  Calls Tryz.prog 15 #[A' v,bs] w fun D w'=>
   ∃ (e:Int) (G:Bool) (s':Mod.Sk) (lv:Value) (fs:List Value) (H:List ByteArray) (U':Nat->Prop),D= .returned (.tuple #[lv, .int .i64 e])/\Q' w.heap.size w' lv fs H U'/\SkE (K+1) G w' v s' U'/\aw' s'/\Far U w w'/\(∀k,U' k->U k\/w.heap.size<=k)/\jz' l d s e G s' H:=by
 rcases h with ⟨rfl,op,ct,n,h1,h2,h⟩|⟨rfl,op,h1,h⟩
 ·have M:=xH' r l;by_cases I:n=0\/skW s l < n
  ·refine(iG' bs l h (by omega) r F I).mono ?_;rintro D w' ⟨lv,fs,U',rfl,k0,k1,k2,k3⟩;exact⟨_,false,_,lv,fs,_,U',rfl,k0, .inl ⟨rfl,op,_,_,by omega,by omega,k1⟩,kb' r l,k2,k3, .inr (.inr ⟨rfl,rfl,rfl,rfl,rfl⟩)⟩
  ·refine(mT' bs l h (by omega) r F (by omega)).mono ?_;rintro D w' ⟨lv,fs,U',rfl,k0,k1,k2,k3⟩;obtain⟨L,c2,hd,J,_⟩:=xf' k1;exact⟨_,true,{epoch:=s.epoch,logs:=iE' s l n,held:=[]},lv,fs,_,U',rfl,k0, .inr ⟨rfl,op,by omega,k1⟩,oU' J,k2,k3, .inr (.inl ⟨rfl,rfl,rfl,rfl,n,by omega,by omega,rfl⟩)⟩
 ·refine(uo' bs h).mono ?_;rintro D w' ⟨rfl,rfl⟩;exact⟨_,true,s,_,[],_,U,rfl,(bM' _ _).apartU (fun k z=>by
   rcases z with z|⟨j,hj,_⟩
   ·cases z
   ·simp at hj), .inr ⟨rfl,op,by omega,h⟩,r,Far.refl _ _,fun _ z=> .inl z, .inl ⟨rfl,rfl,rfl,rfl,rfl⟩⟩
theorem SkE.arm (m:Int) (h:SkE K d w v s U) (z:m<=9223372036854775807):Calls Tryz.prog 12 #[A' v, .int .i64 m] w fun r w'=>r= .returned (.tuple #[])/\SkE K d w' v s U/\Far U w w':=by
 rcases h with ⟨rfl,op,ct,n,h1,h2,h⟩|⟨rfl,op,h1,h⟩
 ·refine(xe' m h z).mono ?_;rintro r w' ⟨rfl,k1,k2⟩;exact⟨rfl, .inl ⟨rfl,op,ct,_,h1,h2,k1⟩,k2⟩
 ·refine(xW' m h z).mono ?_;rintro r w' ⟨rfl,k1,k2⟩;exact⟨rfl, .inr ⟨rfl,op,h1,k1⟩,k2⟩
theorem SkE.img (h:SkE K d w v s U):∃ (L:List UInt8) (op c2 hd:Nat),op<=K+1/\Mod.SkDisk L op c2 hd s.epoch s.logs/\∀x,Below w.heap.size w x->∀z:Int,
  Calls Tryz.prog 28 #[A' v, .int .u64 z] x fun D y=>∃r,D= .returned r/\ax' x.heap.size y r L/\Below x.heap.size x y:=by
 rcases h with ⟨rfl,op,ct,n,h1,h2,h⟩|⟨rfl,op,h1,h⟩
 ·obtain⟨L,c2,hd,k1,k2⟩:=xX' h;exact⟨L,op,c2,hd,h1,k1,k2⟩
 ·obtain⟨L,c2,hd,k1,k2⟩:=xf' h;exact⟨L,op,c2,hd,h1,k1,k2⟩
theorem vO' (bs:Value) (L:List UInt8) {op c2 hd e:Nat} {lg:Nat->List ByteArray} (z:ab' w bs L) (D:Mod.SkDisk L op c2 hd e lg) (F:op<=K+1) (hK:K < 1000000000):
  Calls Tryz.prog 25 #[bs] w fun r w'=>∃v U,r= .returned (.tuple #[A' v, .int .i64 0])/\SkE (K+1) false w' v {epoch:=e,logs:=lg,held:=[]} U/\Below w.heap.size w w'/\∀k,U k->w.heap.size<=k:=by
 refine(xG' bs L z D (by omega)).mono ?_;rintro r w' ⟨v,U,rfl,k1,k2,k3⟩;exact⟨v,U,rfl, .inl ⟨rfl,op+1,1,0,by omega,by omega,k1⟩,k2,k3⟩
theorem vP' (bs:Value) (z:ab' w bs (List.replicate 7808 0)):
  Calls Tryz.prog 25 #[bs] w fun r w'=>∃v U,r= .returned (.tuple #[A' v, .int .i64 0])/\SkE 0 false w' v {epoch:=0,logs:=fun _=>[],held:=[]} U/\Below w.heap.size w w'/\∀k,U k->w.heap.size<=k:=by
 refine(ka' bs z).mono ?_;rintro r w' ⟨v,U,rfl,k1,k2,k3⟩;exact⟨v,U,rfl, .inl ⟨rfl,1,1,0,by omega,by omega,k1⟩,k2,k3⟩
end
end Go.Proofs.YtamafdcnbcoegabGreat
