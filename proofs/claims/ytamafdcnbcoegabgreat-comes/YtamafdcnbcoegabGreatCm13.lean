/-
  Part 13 of a proof: LB3, L37, LB4, D18, D19.
-/
import Derived.Test.YtamafdcnbcoegabGreatCm12
set_option maxRecDepth 100000
set_option maxHeartbeats 40000000
namespace Go.Proofs.YtamafdcnbcoegabGreat
open Go.RowKit
def fj' (a:Mod.Ag) (l:List UInt8):Nat:=
 if Wire.reads l=true then a.says (Wire.kindOf l) (Wire.epochOf l) (Wire.streamOf l).toNat (Wire.seqOf l).toNat (Wire.bodyOf l) 0+a.says (Wire.kindOf l) (Wire.epochOf l) (Wire.streamOf l).toNat (Wire.seqOf l).toNat (Wire.bodyOf l) 1+a.says (Wire.kindOf l) (Wire.epochOf l) (Wire.streamOf l).toNat (Wire.seqOf l).toNat (Wire.bodyOf l) 2 else 0
theorem qo' {a:Mod.Ag} {l:List UInt8} (r:Wire.reads l=true) {k:Int} {e s q:Nat} {b:ByteArray} (h1:Wire.kindOf l=k) (h2:Wire.epochOf l=e) (h3:Wire.streamOf l=s) (h4:Wire.seqOf l=q) (h5:Wire.bodyOf l=b):
  fj' a l=a.says k e s q b 0+a.says k e s q b 1+a.says k e s q b 2:=by
 unfold fj';rw[if_pos r,h1,h2,h3,h4,h5];rfl
theorem kD' {a:Mod.Ag} {l:List UInt8} (r:Wire.reads l=false):fj' a l=0:=by
 unfold fj';rw[if_neg (by rw[r];decide)]
section
variable {w:World} {p:Nat} {g0:Nat->Nat} {free:List Nat} {sh:Nat->List (Nat×Value)} {st:Mod.Stv} {c:Av} {a a2:Mod.Ag} {pl:Nat->List Nat} {op:Nat×Nat}
theorem mI' (r:aC' w p g0 a.ticks a.welcome a.fenced free sh st c) (hs:cv' op st a free pl) (H:aQ' a st.opening g0 free sh pl) (bs:Value) (l:List UInt8) (I:ab' w bs l) (J:Wire.reads l=false):
  Calls Tryz.prog 45 #[A' p,bs] w fun F M=>F= .returned (.int .i64 1)/\bO' op w M p a c:=by
 have c0:w.cell? ⟨p,0,none⟩=some (A' c.s):=by rw[t' r.ks.blk,r.ks.a0]
 have G:=ai' r.stt;rw[hs.dead]at G;have O:=y' G;have z:=cB' bs l w I;rw[J]at z;simp only[Bool.false_eq_true,if_false,cN']at z;have Q:=y' z;have U:=y' (bU' r hs H);clear r G z;unfold A' at *;go_enter Tryz.func45,Tryz.ntmps45;go_wp2_with (first|(go_at_call 66;refine(i' O).mono ?_;rintro F y ⟨rfl,rfl⟩)|(go_at_call 69;refine(i' Q).mono ?_;rintro F y ⟨rfl,D⟩;replace D:=y' D));go_ret;exact⟨rfl,(i' U).below ((i' D).alloc (i' D).size _)⟩
theorem iu' (G:aC' w p g0 a.ticks a.welcome a.fenced free sh st c) (hs:cv' op st a free pl) (Z:Int) (O:World->World->Prop) (aa:∀y r:World,Below w.heap.size w y->O y r->O w r) (bs:Value) (k e s q:Int) (b:ByteArray) (aD:k=2)
  (ab:∀y,Below w.heap.size w y->Calls Tryz.prog 69 #[bs] y fun H r=>H= .returned (.tuple #[.agg #[.int .i64 k, .int .i64 e, .int .i64 s, .int .i64 q, .string b], .int .i64 0])/\Below y.heap.size y r)
  (ac:∀y,Below w.heap.size w y->Calls Tryz.prog 76 #[A' p, .agg #[.int .i64 2, .int .i64 e, .int .i64 s, .int .i64 q, .string b]] y fun H r=>H= .returned (.int .i64 Z)/\O y r):
  Calls Tryz.prog 45 #[A' p,bs] w fun H r=>H= .returned (.int .i64 Z)/\O w r:=by
 have c0:w.cell? ⟨p,0,none⟩=some (A' c.s):=by rw[t' G.ks.blk,G.ks.a0]
 have Q:=ai' G.stt;rw[hs.dead]at Q;have ad:=y' Q;have ah:=y' (ab w (Below.refl _ _));subst aD;have aE:=fun y aF=>y' (ac y aF);clear ac;obtain⟨D,cap,ai,aQ,aR,aj⟩:=G.rl.shape;obtain⟨g,o,rfl,I⟩:=aj (by omega);have r0:w.cell? ⟨g,o,none⟩=some (.int .i64 2):=by have:=I 0 (by omega);simpa[aH']using this
 have ak:w.cell? ⟨g,o+1,none⟩=some (.func (.func 76) #[A' p] #[]):=by have:=I 1 (by omega);simpa[aH']using this
 have ao:w.cell? ⟨g,o+2,none⟩=some (.int .i64 4):=by have:=I 2 (by omega);simpa[aH']using this
 have ap:w.cell? ⟨g,o+2+1,none⟩=some (.func (.func 77) #[A' p] #[]):=by have:=I 3 (by omega);simpa[aH']using this
 have aq:w.cell? ⟨g,o+4,none⟩=some (.int .i64 5):=by have:=I 4 (by omega);simpa[aH']using this
 have au:w.cell? ⟨g,o+4+1,none⟩=some (.func (.func 78) #[A' p] #[]):=by have:=I 5 (by omega);simpa[aH']using this
 have av:w.cell? ⟨p,26,none⟩=some (.slice (some ⟨g,o,none⟩) 3 cap):=by rw[t' G.ks.blk,G.ks.ar,ai]
 have J:g < w.heap.size:=World.block_lt_of_cell? _ _ r0;have aG:=lt_of_block G.ks.blk;have aH:=y' aa;clear aa G Q ab I aj ai;unfold A' at *;go_enter Tryz.func45,Tryz.ntmps45;go_upto_region 4 with (first|(go_at_call 66;refine(i' ad).mono ?_;rintro H y ⟨rfl,aI⟩;obtain rfl:w=y:=aI.symm)|(go_at_call 69;refine(i' ah).mono ?_;rintro H y ⟨rfl,z⟩));obtain⟨M,U⟩:∃M,M=y.heap.size:=⟨_,rfl⟩;have aS:w.heap.size<=M:=by have:=z.size;omega
 have ax:=y' U;have V:=y' z;rw[<-U];clear U z;refine H' (fun u=>u.heap[M]? =some (.cells #[.int .i64 2, .int .i64 e, .int .i64 s, .int .i64 q, .string b] 63 (0,0))/\Below w.heap.size w u) ?_ ?_
 ·rw[i' ax];exact⟨heap_alloc_new _ _,(i' V).alloc (i' V).size _⟩
 clear ax V c0 ah ad;rintro u ⟨F,X⟩;have aJ:=(X.cell (p:=⟨p,26,none⟩) aG).trans av;have ay:=y' F;have az:=y' X;clear F X av;go_wp2;go_loopw[8,27] (fun _ i wr=>∃j:Nat,j<=0/\i= .int .i64 j/\wr.heap[M]? =some (.cells #[.int .i64 2, .int .i64 e, .int .i64 s, .int .i64 q, .string b] 63 (0,0))/\Below w.heap.size w wr) (fun _ i _=>4 - (intOf i).toNat)
 case atStart=>exact⟨0,by omega,rfl,i' ay,i' az⟩
 case round=>
  obtain⟨j,hj,rfl,F,z⟩:=hrel;clear ay az aJ;have s0:=(z.cell (p:=⟨g,o,none⟩) J).trans r0;have s1:=(z.cell (p:=⟨g,o+1,none⟩) J).trans ak;have aT:=(z.cell (p:=⟨g,o+2,none⟩) J).trans ao;have aU:=(z.cell (p:=⟨g,o+2+1,none⟩) J).trans ap;have aV:=(z.cell (p:=⟨g,o+4,none⟩) J).trans aq;have aW:=(z.cell (p:=⟨g,o+4+1,none⟩) J).trans au;have aK:=t' (i:=0) F;have aL:=t' (i:=1) F;have aM:=t' (i:=2) F;have aN:=t' (i:=3) F;have aO:=t' (i:=4) F;simp at aK aL aM aN aO;have aP:=lt_of_block F;have aX:=y' F;have aA:=y' z;have aB:∀Y,(wr.alloc Y).heap[M]? =some (.cells #[.int .i64 2, .int .i64 e, .int .i64 s, .int .i64 q, .string b] 63 (0,0))/\Below w.heap.size w (wr.alloc Y):=fun Y=>⟨(hao _ _ aP).trans F,z.alloc z.size _⟩;have aC:=y' aB;clear F z aB r0 ak ao ap aq au;have aY:∀ (D:Addr) (m:Mode) (r:World),(store D (.func (.func 76) #[.pointer (some ⟨p,0,none⟩)] #[]) m).run Tryz.prog r=stored Tryz.prog r D (.func (.func 76) #[.pointer (some ⟨p,0,none⟩)] #[]) m:=fun D m r=>run_store _ _ _ _ _ rfl;have aZ:∀ (D:Addr) (m:Mode) (r:World),(store D (.func (.func 77) #[.pointer (some ⟨p,0,none⟩)] #[]) m).run Tryz.prog r=stored Tryz.prog r D (.func (.func 77) #[.pointer (some ⟨p,0,none⟩)] #[]) m:=fun D m r=>run_store _ _ _ _ _ rfl;have ba:∀ (D:Addr) (m:Mode) (r:World),(store D (.func (.func 78) #[.pointer (some ⟨p,0,none⟩)] #[]) m).run Tryz.prog r=stored Tryz.prog r D (.func (.func 78) #[.pointer (some ⟨p,0,none⟩)] #[]) m:=fun D m r=>run_store _ _ _ _ _ rfl;obtain rfl:j=0:=by omega
  focus
   go_wp2_with (go_at_call 76;refine(i' (aE _ (by first|exact((i' aC) _).2|exact(i' aA)))).mono ?_;rintro H r ⟨rfl,k1⟩;replace k1:=y' k1)
   go_ret;exact⟨rfl,i' aH _ _ (by first|exact((i' aC) _).2|exact(i' aA)) (i' k1)⟩
theorem iv' (G:aC' w p g0 a.ticks a.welcome a.fenced free sh st c) (hs:cv' op st a free pl) (aa:Int) (O:World->World->Prop) (ab:∀y r:World,Below w.heap.size w y->O y r->O w r) (bs:Value) (k e s q:Int) (b:ByteArray) (aD:k=4)
  (ac:∀y,Below w.heap.size w y->Calls Tryz.prog 69 #[bs] y fun H r=>H= .returned (.tuple #[.agg #[.int .i64 k, .int .i64 e, .int .i64 s, .int .i64 q, .string b], .int .i64 0])/\Below y.heap.size y r)
  (ad:∀y,Below w.heap.size w y->Calls Tryz.prog 77 #[A' p, .agg #[.int .i64 4, .int .i64 e, .int .i64 s, .int .i64 q, .string b]] y fun H r=>H= .returned (.int .i64 aa)/\O y r):
  Calls Tryz.prog 45 #[A' p,bs] w fun H r=>H= .returned (.int .i64 aa)/\O w r:=by
 have c0:w.cell? ⟨p,0,none⟩=some (A' c.s):=by rw[t' G.ks.blk,G.ks.a0]
 have Q:=ai' G.stt;rw[hs.dead]at Q;have ah:=y' Q;have ai:=y' (ac w (Below.refl _ _));subst aD;have aE:=fun y aF=>y' (ad y aF);clear ad;obtain⟨D,cap,aj,aQ,aR,ak⟩:=G.rl.shape;obtain⟨g,o,rfl,I⟩:=ak (by omega);have r0:w.cell? ⟨g,o,none⟩=some (.int .i64 2):=by have:=I 0 (by omega);simpa[aH']using this
 have ao:w.cell? ⟨g,o+1,none⟩=some (.func (.func 76) #[A' p] #[]):=by have:=I 1 (by omega);simpa[aH']using this
 have ap:w.cell? ⟨g,o+2,none⟩=some (.int .i64 4):=by have:=I 2 (by omega);simpa[aH']using this
 have aq:w.cell? ⟨g,o+2+1,none⟩=some (.func (.func 77) #[A' p] #[]):=by have:=I 3 (by omega);simpa[aH']using this
 have au:w.cell? ⟨g,o+4,none⟩=some (.int .i64 5):=by have:=I 4 (by omega);simpa[aH']using this
 have av:w.cell? ⟨g,o+4+1,none⟩=some (.func (.func 78) #[A' p] #[]):=by have:=I 5 (by omega);simpa[aH']using this
 have ax:w.cell? ⟨p,26,none⟩=some (.slice (some ⟨g,o,none⟩) 3 cap):=by rw[t' G.ks.blk,G.ks.ar,aj]
 have J:g < w.heap.size:=World.block_lt_of_cell? _ _ r0;have aG:=lt_of_block G.ks.blk;have aH:=y' ab;clear ab G Q ac I ak aj;unfold A' at *;go_enter Tryz.func45,Tryz.ntmps45;go_upto_region 4 with (first|(go_at_call 66;refine(i' ah).mono ?_;rintro H y ⟨rfl,aI⟩;obtain rfl:w=y:=aI.symm)|(go_at_call 69;refine(i' ai).mono ?_;rintro H y ⟨rfl,z⟩));obtain⟨M,U⟩:∃M,M=y.heap.size:=⟨_,rfl⟩;have aS:w.heap.size<=M:=by have:=z.size;omega
 have ay:=y' U;have V:=y' z;rw[<-U];clear U z;refine H' (fun u=>u.heap[M]? =some (.cells #[.int .i64 4, .int .i64 e, .int .i64 s, .int .i64 q, .string b] 63 (0,0))/\Below w.heap.size w u) ?_ ?_
 ·rw[i' ay];exact⟨heap_alloc_new _ _,(i' V).alloc (i' V).size _⟩
 clear ay V c0 ai ah;rintro u ⟨F,X⟩;have aJ:=(X.cell (p:=⟨p,26,none⟩) aG).trans ax;have az:=y' F;have aA:=y' X;clear F X ax;go_wp2;go_loopw[8,27] (fun _ i wr=>∃j:Nat,j<=1/\i= .int .i64 j/\wr.heap[M]? =some (.cells #[.int .i64 4, .int .i64 e, .int .i64 s, .int .i64 q, .string b] 63 (0,0))/\Below w.heap.size w wr) (fun _ i _=>4 - (intOf i).toNat)
 case atStart=>exact⟨0,by omega,rfl,i' az,i' aA⟩
 case round=>
  obtain⟨j,hj,rfl,F,z⟩:=hrel;clear az aA aJ;have s0:=(z.cell (p:=⟨g,o,none⟩) J).trans r0;have s1:=(z.cell (p:=⟨g,o+1,none⟩) J).trans ao;have aT:=(z.cell (p:=⟨g,o+2,none⟩) J).trans ap;have aU:=(z.cell (p:=⟨g,o+2+1,none⟩) J).trans aq;have aV:=(z.cell (p:=⟨g,o+4,none⟩) J).trans au;have aW:=(z.cell (p:=⟨g,o+4+1,none⟩) J).trans av;have aK:=t' (i:=0) F;have aL:=t' (i:=1) F;have aM:=t' (i:=2) F;have aN:=t' (i:=3) F;have aO:=t' (i:=4) F;simp at aK aL aM aN aO;have aP:=lt_of_block F;have aX:=y' F;have aB:=y' z;have aC:∀Y,(wr.alloc Y).heap[M]? =some (.cells #[.int .i64 4, .int .i64 e, .int .i64 s, .int .i64 q, .string b] 63 (0,0))/\Below w.heap.size w (wr.alloc Y):=fun Y=>⟨(hao _ _ aP).trans F,z.alloc z.size _⟩;have Z:=y' aC;clear F z aC r0 ao ap aq au av;have aY:∀ (D:Addr) (m:Mode) (r:World),(store D (.func (.func 76) #[.pointer (some ⟨p,0,none⟩)] #[]) m).run Tryz.prog r=stored Tryz.prog r D (.func (.func 76) #[.pointer (some ⟨p,0,none⟩)] #[]) m:=fun D m r=>run_store _ _ _ _ _ rfl;have aZ:∀ (D:Addr) (m:Mode) (r:World),(store D (.func (.func 77) #[.pointer (some ⟨p,0,none⟩)] #[]) m).run Tryz.prog r=stored Tryz.prog r D (.func (.func 77) #[.pointer (some ⟨p,0,none⟩)] #[]) m:=fun D m r=>run_store _ _ _ _ _ rfl;have ba:∀ (D:Addr) (m:Mode) (r:World),(store D (.func (.func 78) #[.pointer (some ⟨p,0,none⟩)] #[]) m).run Tryz.prog r=stored Tryz.prog r D (.func (.func 78) #[.pointer (some ⟨p,0,none⟩)] #[]) m:=fun D m r=>run_store _ _ _ _ _ rfl;rcases(show j=0\/j=1 by omega)with rfl|rfl;focus
   go_wp2;exact⟨⟨1,by omega,by go_num,(i' Z) _⟩,by simp[intOf]⟩
  focus
   go_wp2_with (go_at_call 77;refine(i' (aE _ (by first|exact((i' Z) _).2|exact(i' aB)))).mono ?_;rintro H r ⟨rfl,k1⟩;replace k1:=y' k1)
   go_ret;exact⟨rfl,i' aH _ _ (by first|exact((i' Z) _).2|exact(i' aB)) (i' k1)⟩
theorem oB' (G:aC' w p g0 a.ticks a.welcome a.fenced free sh st c) (hs:cv' op st a free pl) (aa:Int) (O:World->World->Prop) (ab:∀y r:World,Below w.heap.size w y->O y r->O w r) (bs:Value) (k e s q:Int) (b:ByteArray) (aD:k=5)
  (ac:∀y,Below w.heap.size w y->Calls Tryz.prog 69 #[bs] y fun H r=>H= .returned (.tuple #[.agg #[.int .i64 k, .int .i64 e, .int .i64 s, .int .i64 q, .string b], .int .i64 0])/\Below y.heap.size y r)
  (ad:∀y,Below w.heap.size w y->Calls Tryz.prog 78 #[A' p, .agg #[.int .i64 5, .int .i64 e, .int .i64 s, .int .i64 q, .string b]] y fun H r=>H= .returned (.int .i64 aa)/\O y r):
  Calls Tryz.prog 45 #[A' p,bs] w fun H r=>H= .returned (.int .i64 aa)/\O w r:=by
 have c0:w.cell? ⟨p,0,none⟩=some (A' c.s):=by rw[t' G.ks.blk,G.ks.a0]
 have U:=ai' G.stt;rw[hs.dead]at U;have ah:=y' U;have ai:=y' (ac w (Below.refl _ _));subst aD;have aE:=fun y aF=>y' (ad y aF);clear ad;obtain⟨D,cap,aj,aQ,aR,ak⟩:=G.rl.shape;obtain⟨g,o,rfl,I⟩:=ak (by omega);have r0:w.cell? ⟨g,o,none⟩=some (.int .i64 2):=by have:=I 0 (by omega);simpa[aH']using this
 have ao:w.cell? ⟨g,o+1,none⟩=some (.func (.func 76) #[A' p] #[]):=by have:=I 1 (by omega);simpa[aH']using this
 have ap:w.cell? ⟨g,o+2,none⟩=some (.int .i64 4):=by have:=I 2 (by omega);simpa[aH']using this
 have aq:w.cell? ⟨g,o+2+1,none⟩=some (.func (.func 77) #[A' p] #[]):=by have:=I 3 (by omega);simpa[aH']using this
 have au:w.cell? ⟨g,o+4,none⟩=some (.int .i64 5):=by have:=I 4 (by omega);simpa[aH']using this
 have av:w.cell? ⟨g,o+4+1,none⟩=some (.func (.func 78) #[A' p] #[]):=by have:=I 5 (by omega);simpa[aH']using this
 have ax:w.cell? ⟨p,26,none⟩=some (.slice (some ⟨g,o,none⟩) 3 cap):=by rw[t' G.ks.blk,G.ks.ar,aj]
 have J:g < w.heap.size:=World.block_lt_of_cell? _ _ r0;have aG:=lt_of_block G.ks.blk;have aH:=y' ab;clear ab G U ac I ak aj;unfold A' at *;go_enter Tryz.func45,Tryz.ntmps45;go_upto_region 4 with (first|(go_at_call 66;refine(i' ah).mono ?_;rintro H y ⟨rfl,aI⟩;obtain rfl:w=y:=aI.symm)|(go_at_call 69;refine(i' ai).mono ?_;rintro H y ⟨rfl,z⟩));obtain⟨M,V⟩:∃M,M=y.heap.size:=⟨_,rfl⟩;have aS:w.heap.size<=M:=by have:=z.size;omega
 have ay:=y' V;have X:=y' z;rw[<-V];clear V z;refine H' (fun u=>u.heap[M]? =some (.cells #[.int .i64 5, .int .i64 e, .int .i64 s, .int .i64 q, .string b] 63 (0,0))/\Below w.heap.size w u) ?_ ?_
 ·rw[i' ay];exact⟨heap_alloc_new _ _,(i' X).alloc (i' X).size _⟩
 clear ay X c0 ai ah;rintro u ⟨F,Y⟩;have aJ:=(Y.cell (p:=⟨p,26,none⟩) aG).trans ax;have az:=y' F;have aA:=y' Y;clear F Y ax;go_wp2;go_loopw[8,27] (fun _ i wr=>∃j:Nat,j<=2/\i= .int .i64 j/\wr.heap[M]? =some (.cells #[.int .i64 5, .int .i64 e, .int .i64 s, .int .i64 q, .string b] 63 (0,0))/\Below w.heap.size w wr) (fun _ i _=>4 - (intOf i).toNat)
 case atStart=>exact⟨0,by omega,rfl,i' az,i' aA⟩
 case round=>
  obtain⟨j,hj,rfl,F,z⟩:=hrel;clear az aA aJ;have s0:=(z.cell (p:=⟨g,o,none⟩) J).trans r0;have s1:=(z.cell (p:=⟨g,o+1,none⟩) J).trans ao;have aT:=(z.cell (p:=⟨g,o+2,none⟩) J).trans ap;have aU:=(z.cell (p:=⟨g,o+2+1,none⟩) J).trans aq;have aV:=(z.cell (p:=⟨g,o+4,none⟩) J).trans au;have aW:=(z.cell (p:=⟨g,o+4+1,none⟩) J).trans av;have aK:=t' (i:=0) F;have aL:=t' (i:=1) F;have aM:=t' (i:=2) F;have aN:=t' (i:=3) F;have aO:=t' (i:=4) F;simp at aK aL aM aN aO;have aP:=lt_of_block F;have aX:=y' F;have aB:=y' z;have aC:∀Z,(wr.alloc Z).heap[M]? =some (.cells #[.int .i64 5, .int .i64 e, .int .i64 s, .int .i64 q, .string b] 63 (0,0))/\Below w.heap.size w (wr.alloc Z):=fun Z=>⟨(hao _ _ aP).trans F,z.alloc z.size _⟩;have Q:=y' aC;clear F z aC r0 ao ap aq au av;have aY:∀ (D:Addr) (m:Mode) (r:World),(store D (.func (.func 76) #[.pointer (some ⟨p,0,none⟩)] #[]) m).run Tryz.prog r=stored Tryz.prog r D (.func (.func 76) #[.pointer (some ⟨p,0,none⟩)] #[]) m:=fun D m r=>run_store _ _ _ _ _ rfl;have aZ:∀ (D:Addr) (m:Mode) (r:World),(store D (.func (.func 77) #[.pointer (some ⟨p,0,none⟩)] #[]) m).run Tryz.prog r=stored Tryz.prog r D (.func (.func 77) #[.pointer (some ⟨p,0,none⟩)] #[]) m:=fun D m r=>run_store _ _ _ _ _ rfl;have ba:∀ (D:Addr) (m:Mode) (r:World),(store D (.func (.func 78) #[.pointer (some ⟨p,0,none⟩)] #[]) m).run Tryz.prog r=stored Tryz.prog r D (.func (.func 78) #[.pointer (some ⟨p,0,none⟩)] #[]) m:=fun D m r=>run_store _ _ _ _ _ rfl;rcases(show j=0\/j=1\/j=2 by omega)with rfl|rfl|rfl;focus
   go_wp2;exact⟨⟨1,by omega,by go_num,(i' Q) _⟩,by simp[intOf]⟩
  focus
   go_wp2;exact⟨⟨2,by omega,by go_num,(i' Q) _⟩,by simp[intOf]⟩
  focus
   go_wp2_with (go_at_call 78;refine(i' (aE _ (by first|exact((i' Q) _).2|exact(i' aB)))).mono ?_;rintro H r ⟨rfl,k1⟩;replace k1:=y' k1)
   go_ret;exact⟨rfl,i' aH _ _ (by first|exact((i' Q) _).2|exact(i' aB)) (i' k1)⟩
theorem ku' (G:aC' w p g0 a.ticks a.welcome a.fenced free sh st c) (hs:cv' op st a free pl) (ay:aQ' a st.opening g0 free sh pl) (bs:Value) (k e s q:Int) (b:ByteArray) (k2:k≠2) (k4:k≠4) (k5:k≠5)
  (Z:∀y,Below w.heap.size w y->Calls Tryz.prog 69 #[bs] y fun M r=>M= .returned (.tuple #[.agg #[.int .i64 k, .int .i64 e, .int .i64 s, .int .i64 q, .string b], .int .i64 0])/\Below y.heap.size y r):
  Calls Tryz.prog 45 #[A' p,bs] w fun M r=>M= .returned (.int .i64 0)/\bO' op w r p a c:=by
 have c0:w.cell? ⟨p,0,none⟩=some (A' c.s):=by rw[t' G.ks.blk,G.ks.a0]
 have O:=ai' G.stt;rw[hs.dead]at O;have aa:=y' O;have ab:=y' (Z w (Below.refl _ _));have aK:((2:Int) ==k)=false:=by simp;omega
 have aL:((4:Int) ==k)=false:=by simp;omega
 have aM:((5:Int) ==k)=false:=by simp;omega
 obtain⟨D,cap,ac,aN,aO,ad⟩:=G.rl.shape;obtain⟨g,o,rfl,H⟩:=ad (by omega);have r0:w.cell? ⟨g,o,none⟩=some (.int .i64 2):=by have:=H 0 (by omega);simpa[aH']using this
 have ah:w.cell? ⟨g,o+1,none⟩=some (.func (.func 76) #[A' p] #[]):=by have:=H 1 (by omega);simpa[aH']using this
 have ai:w.cell? ⟨g,o+2,none⟩=some (.int .i64 4):=by have:=H 2 (by omega);simpa[aH']using this
 have aj:w.cell? ⟨g,o+2+1,none⟩=some (.func (.func 77) #[A' p] #[]):=by have:=H 3 (by omega);simpa[aH']using this
 have ak:w.cell? ⟨g,o+4,none⟩=some (.int .i64 5):=by have:=H 4 (by omega);simpa[aH']using this
 have ao:w.cell? ⟨g,o+4+1,none⟩=some (.func (.func 78) #[A' p] #[]):=by have:=H 5 (by omega);simpa[aH']using this
 have ap:w.cell? ⟨p,26,none⟩=some (.slice (some ⟨g,o,none⟩) 3 cap):=by rw[t' G.ks.blk,G.ks.ar,ac]
 have I:g < w.heap.size:=World.block_lt_of_cell? _ _ r0;have az:=lt_of_block G.ks.blk;have aA:=y' (bU' G hs ay);clear G O Z H ad ac;unfold A' at *;go_enter Tryz.func45,Tryz.ntmps45;go_upto_region 4 with (first|(go_at_call 66;refine(i' aa).mono ?_;rintro M y ⟨rfl,aB⟩;obtain rfl:w=y:=aB.symm)|(go_at_call 69;refine(i' ab).mono ?_;rintro M y ⟨rfl,z⟩));obtain⟨J,Q⟩:∃J,J=y.heap.size:=⟨_,rfl⟩;have aP:w.heap.size<=J:=by have:=z.size;omega
 have aq:=y' Q;have U:=y' z;rw[<-Q];clear Q z;refine H' (fun u=>u.heap[J]? =some (.cells #[.int .i64 k, .int .i64 e, .int .i64 s, .int .i64 q, .string b] 63 (0,0))/\Below w.heap.size w u) ?_ ?_
 ·rw[i' aq];exact⟨heap_alloc_new _ _,(i' U).alloc (i' U).size _⟩
 clear aq U c0 ab aa;rintro u ⟨F,V⟩;have aC:=(V.cell (p:=⟨p,26,none⟩) az).trans ap;have au:=y' F;have av:=y' V;clear F V ap;go_wp2;go_loopw[8,27] (fun _ i wr=>∃j:Nat,j<=3/\i= .int .i64 j/\wr.heap[J]? =some (.cells #[.int .i64 k, .int .i64 e, .int .i64 s, .int .i64 q, .string b] 63 (0,0))/\Below w.heap.size w wr) (fun _ i _=>4 - (intOf i).toNat)
 case atStart=>exact⟨0,by omega,rfl,i' au,i' av⟩
 case round=>
  obtain⟨j,hj,rfl,F,z⟩:=hrel;clear au av aC;have s0:=(z.cell (p:=⟨g,o,none⟩) I).trans r0;have s1:=(z.cell (p:=⟨g,o+1,none⟩) I).trans ah;have aQ:=(z.cell (p:=⟨g,o+2,none⟩) I).trans ai;have aR:=(z.cell (p:=⟨g,o+2+1,none⟩) I).trans aj;have aS:=(z.cell (p:=⟨g,o+4,none⟩) I).trans ak;have aT:=(z.cell (p:=⟨g,o+4+1,none⟩) I).trans ao;have aD:=t' (i:=0) F;have aE:=t' (i:=1) F;have aF:=t' (i:=2) F;have aG:=t' (i:=3) F;have aH:=t' (i:=4) F;simp at aD aE aF aG aH;have aI:=lt_of_block F;have aU:=y' F;have aJ:=y' z;have ax:∀X,(wr.alloc X).heap[J]? =some (.cells #[.int .i64 k, .int .i64 e, .int .i64 s, .int .i64 q, .string b] 63 (0,0))/\Below w.heap.size w (wr.alloc X):=fun X=>⟨(hao _ _ aI).trans F,z.alloc z.size _⟩;have Y:=y' ax;clear F z ax r0 ah ai aj ak ao;have aV:∀ (D:Addr) (m:Mode) (r:World),(store D (.func (.func 76) #[.pointer (some ⟨p,0,none⟩)] #[]) m).run Tryz.prog r=stored Tryz.prog r D (.func (.func 76) #[.pointer (some ⟨p,0,none⟩)] #[]) m:=fun D m r=>run_store _ _ _ _ _ rfl;have aW:∀ (D:Addr) (m:Mode) (r:World),(store D (.func (.func 77) #[.pointer (some ⟨p,0,none⟩)] #[]) m).run Tryz.prog r=stored Tryz.prog r D (.func (.func 77) #[.pointer (some ⟨p,0,none⟩)] #[]) m:=fun D m r=>run_store _ _ _ _ _ rfl;have aX:∀ (D:Addr) (m:Mode) (r:World),(store D (.func (.func 78) #[.pointer (some ⟨p,0,none⟩)] #[]) m).run Tryz.prog r=stored Tryz.prog r D (.func (.func 78) #[.pointer (some ⟨p,0,none⟩)] #[]) m:=fun D m r=>run_store _ _ _ _ _ rfl;rcases(show j=0\/j=1\/j=2\/j=3 by omega)with rfl|rfl|rfl|rfl;focus
   go_wp2;exact⟨⟨1,by omega,by go_num,(i' Y) _⟩,by simp[intOf]⟩
  focus
   go_wp2;exact⟨⟨2,by omega,by go_num,(i' Y) _⟩,by simp[intOf]⟩
  focus
   go_wp2;exact⟨⟨3,by omega,by go_num,(i' Y) _⟩,by simp[intOf]⟩
  focus
   go_wp2;go_ret;exact⟨rfl,(i' aA).below (i' aJ)⟩
end
section
variable {w:World} {p:Nat} {g0:Nat->Nat} {free:List Nat} {sh:Nat->List (Nat×Value)} {st:Mod.Stv} {c:Av} {a:Mod.Ag} {pl:Nat->List Nat} {op:Nat×Nat}
theorem nt' {a:Mod.Ag} {k e s q:Int} {b:ByteArray} (h:¬e=a.epoch):a.says k e s q b 0+a.says k e s q b 1+a.says k e s q b 2=0:=by
 have r:∀i,a.says k e s q b i=0:=fun i=>by unfold Mod.Ag.says;rw[if_pos h]
 rw[r,r,r]
theorem nu' {a:Mod.Ag} {e s q:Int} {b:ByteArray} (h:¬ (e=a.epoch/\a.welcome=true)):a.says 4 e s q b 0+a.says 4 e s q b 1+a.says 4 e s q b 2=0:=by
 have r:∀i,a.says 4 e s q b i=0:=fun i=>by
  unfold Mod.Ag.says;by_cases z:e=a.epoch
  ·rw[if_neg (by simpa using z),if_neg (by decide),if_neg (fun D=>h ⟨z,D.2.2⟩)]
  ·rw[if_pos z]
 rw[r,r,r]
theorem hC' {a:Mod.Ag} {k e s q:Int} {b:ByteArray} (k2:k≠2) (k4:k≠4):a.says k e s q b 0+a.says k e s q b 1+a.says k e s q b 2=0:=by
 have r:∀i,a.says k e s q b i=0:=fun i=>by
  unfold Mod.Ag.says;by_cases z:e=a.epoch
  ·rw[if_neg (by simpa using z),if_neg k2,if_neg (fun h=>k4 h.1)]
  ·rw[if_pos z]
 rw[r,r,r]
theorem lA' (J:aC' w p g0 a.ticks a.welcome a.fenced free sh st c) (hs:cv' op st a free pl) (D:aQ' a st.opening g0 free sh pl) (X:∀i,i < 3->(a.fl i).base+(a.fl i).kept.length<=1000000000) (bs:Value) (l:List UInt8) (Y:ab' w bs l) (Q:op.2≠1\/fj' a l=0):
  Calls Tryz.prog 45 #[A' p,bs] w fun M z=>M= .returned (.int .i64 (aB' a l).1)/\bO' (eh' op (fj' a l)) w z p (aB' a l).2 c:=by
 cases H:Wire.reads l
 ·rw[jm' H,kD' H,dc'];exact mI' J hs D bs l Y H
 ·have U:=ip' H;obtain⟨k,e,s,q,b,h1,h2,h3,h4,h5,g1,g2,Z,aa⟩:=bK' H;rw[hx' H h1 h2 h3 h4 h5];rw[qo' H h1 h2 h3 h4 h5]at Q ⊢;rw[h1,h2,h3,h4,h5]at U;have O:∀y,Below w.heap.size w y->Calls Tryz.prog 69 #[bs] y fun M z=>M= .returned (.tuple #[.agg #[.int .i64 k, .int .i64 e, .int .i64 s, .int .i64 q, .string b], .int .i64 0])/\Below y.heap.size y z:=fun y r=>by have:=cB' bs l y (Y.below r);rw[H]at this;simp only[if_true,kH',h1,h2,h3,h4,h5]at this;exact this
  have I:=fun y (r:Below w.heap.size w y)=>J.below r;by_cases k2:k=2
  ·refine iu' J hs 0 (fun y z=>bO' (eh' op (a.says k e s q b 0+a.says k e s q b 1+a.says k e s q b 2)) y z p (a.deliver k e s q b) c) (fun _ _ F h=>bO'.behind h F) bs k e s q b k2 O (fun y r=>?_);subst k2;by_cases G:e=a.epoch
   ·exact js' (I y r) hs D e s q b Q G (pz' U) X
   ·refine(lk' (I y r) D e s q b G).mono ?_;rintro M z ⟨rfl,F⟩;rw[show a.deliver 2 e s q b=a by unfold Mod.Ag.deliver;rw[if_neg (by omega),if_pos (by omega)]];rw[nt' (fun h=>G (by omega)),dc'];exact⟨rfl,(bU' (I y r) hs D).below F⟩
  ·by_cases k4:k=4
   ·refine iv' J hs 0 (fun y z=>bO' (eh' op (a.says k e s q b 0+a.says k e s q b 1+a.says k e s q b 2)) y z p (a.deliver k e s q b) c) (fun _ _ F h=>bO'.behind h F) bs k e s q b k4 O (fun y r=>?_);subst k4;by_cases G:e=a.epoch/\a.welcome=true
    ·exact qn' (I y r) hs D e s q b Q G.1 G.2 g2 (by have:=(pA' U).1;omega) X
    ·refine(oo' (I y r) D e s q b ?_).mono ?_
     ·by_cases h:e=a.epoch
      ·right;cases V:a.welcome
       ·rfl
       ·exact absurd ⟨h,V⟩ G
      ·exact .inl h
     rintro M z ⟨rfl,F⟩;have:a.deliver 4 e s q b=a:=by
      unfold Mod.Ag.deliver;rw[if_neg (by omega)];by_cases h:e=a.epoch
      ·rw[if_neg (by omega),if_neg (by omega),if_neg (by omega),if_pos rfl];cases V:a.welcome
       ·rw[if_pos (.inl (by simp))]
       ·exact absurd ⟨h,V⟩ G
      ·rw[if_pos (by omega)]
     rw[this,nu' (fun h=>G ⟨by omega,h.2⟩),dc'];exact⟨rfl,(bU' (I y r) hs D).below F⟩
   ·by_cases k5:k=5
    ·refine oB' J hs 0 (fun y z=>bO' (eh' op (a.says k e s q b 0+a.says k e s q b 1+a.says k e s q b 2)) y z p (a.deliver k e s q b) c) (fun _ _ F h=>bO'.behind h F) bs k e s q b k5 O (fun y r=>?_);subst k5;rw[hC' (by decide) (by decide),dc'];exact lz' (I y r) hs D e s q b
    ·have:a.deliver k e s q b=a:=by
      unfold Mod.Ag.deliver;rw[if_neg (by omega)];by_cases h:e=a.epoch
      ·rw[if_neg (by omega),if_neg (by omega),if_neg (by omega),if_neg (by omega)]
      ·rw[if_pos (by omega)]
     rw[this,hC' k2 k4,dc'];exact ku' J hs D bs k e s q b k2 k4 k5 O
theorem lB' (H:aC' w p g0 a.ticks a.welcome a.fenced free sh st c) (hs:cv' op st a free pl) (M:aQ' a st.opening g0 free sh pl) (O:op.2=1) (bs:Value) (l:List UInt8) (z:0 < fj' a l) (Q:∀i,i < 3->(a.fl i).base+(a.fl i).kept.length<=1000000000) (Y:ab' w bs l):
  Calls Tryz.prog 45 #[A' p,bs] w fun I r=>I= .returned (.int .i64 4)/\fp' op.1 w r p a c:=by
 cases G:Wire.reads l
 ·rw[kD' G]at z;omega
 ·have J:=ip' G;obtain⟨k,e,s,q,b,h1,h2,h3,h4,h5,g1,g2,aa,ab⟩:=bK' G;rw[qo' G h1 h2 h3 h4 h5]at z;rw[h1,h2,h3,h4,h5]at J;have U:∀y,Below w.heap.size w y->Calls Tryz.prog 69 #[bs] y fun I r=>I= .returned (.tuple #[.agg #[.int .i64 k, .int .i64 e, .int .i64 s, .int .i64 q, .string b], .int .i64 0])/\Below y.heap.size y r:=fun y D=>by have:=cB' bs l y (Y.below D);rw[G]at this;simp only[if_true,kH',h1,h2,h3,h4,h5]at this;exact this
  have V:=fun y (D:Below w.heap.size w y)=>H.below D;have X:∀y r:World,Below w.heap.size w y->fp' op.1 y r p a c->fp' op.1 w r p a c:=fun _ _ Z ⟨g,f,s,t,h1,h2⟩=>⟨g,f,s,t,h1.behind Z,h2⟩;by_cases k2:k=2
  ·refine iu' H hs 4 (fun y r=>fp' op.1 y r p a c) X bs k e s q b k2 U (fun y D=>?_);subst k2;by_cases F:e=a.epoch
   ·exact jt' (V y D) hs M e s q b O z F (pz' J) Q
   ·rw[nt' (fun h=>F (by omega))]at z;omega
  ·by_cases k4:k=4
   ·refine iv' H hs 4 (fun y r=>fp' op.1 y r p a c) X bs k e s q b k4 U (fun y D=>?_);subst k4;by_cases F:e=a.epoch/\a.welcome=true
    ·exact oA' (V y D) hs M e s q b O z F.1 F.2 g2 (by have:=(pA' J).1;omega) Q
    ·rw[nu' (fun h=>F ⟨by omega,h.2⟩)]at z;omega
   ·rw[hC' k2 k4]at z;omega
end
theorem cL' (a:Mod.Ag) (i:Nat):(a.tick.1.fl i).base=(a.fl i).base/\(a.tick.1.fl i).kept.map (·.1)=(a.fl i).kept.map (·.1):=by
 unfold Mod.Ag.tick;split
 ·exact⟨rfl,rfl⟩
 ·split
  ·exact⟨rfl,rfl⟩
  ·simp only
   unfold Mod.sendFl;split
   ·exact⟨rfl,hy' _ _ _ _ _⟩
   ·exact⟨rfl,rfl⟩
section
variable {w:World} {p:Nat} {g:Nat->Nat} {free:List Nat} {sh:Nat->List (Nat×Value)} {st:Mod.Stv} {c:Av} {a:Mod.Ag} {pl:Nat->List Nat} {op:Nat}
end
section
variable {w:World} {p:Nat} {g:Nat->Nat} {free:List Nat} {sh:Nat->List (Nat×Value)} {st:Mod.Stv} {c:Av} {a:Mod.Ag} {pl:Nat->List Nat} {op:Nat}
end
def sg' (op:Nat×Nat) (w z:World) (p:Nat) (a':Mod.Ag) (c:Av) (lv:Value) (fs:List Value) (F:List ByteArray):Prop:=
 ∃r,Q' w.heap.size z lv fs F (PaU p r)/\(∃g free sh D st,aC' z p g a'.ticks a'.welcome a'.fenced free sh st r/\cv' op st a' free D/\aQ' a' st.opening g free sh D)/\Far (PaU p c) w z/\(∀k,PaU p r k->PaU p c k\/w.heap.size<=k)/\r.s=c.s/\r.rv=c.rv
section
variable {w:World} {p:Nat} {g:Nat->Nat} {free:List Nat} {sh:Nat->List (Nat×Value)} {st:Mod.Stv} {c:Av} {a:Mod.Ag} {pl:Nat->List Nat} {op:Nat×Nat}
theorem lC' (z:aC' w p g a.ticks a.welcome a.fenced free sh st c) (hs:cv' op st a free pl) (H:aQ' a st.opening g free sh pl) (ab:a.ticks<=1000000000) (I:a.fenced=true):
  Calls Tryz.prog 43 #[A' p] w fun U V=>U= .returned (.slice none 0 0)/\bO' op w V p a.tick.1 c:=by
 have J:a.tick.1={a with ticks:=a.ticks+1}:=by unfold Mod.Ag.tick;rw[if_pos I]
 rw[J];have X:w.cell? ⟨p,23,none⟩=some (.int .i64 a.ticks):=by rw[t' z.ks.blk,z.ks.at']
 have f23:w.frozen? ⟨p,23,none⟩=false:=I' (i:=23) z.ks.blk;obtain⟨r,F⟩:∃r,r=a.ticks+1:=⟨_,rfl⟩;rw[<-F];have Y:=y' F;have G:=y' (And.intro z (And.intro hs H));clear z H hs J F;unfold A' at *;go_enter Tryz.func43,Tryz.ntmps43;go_upto_region 2 with fail;refine H' (fun x=>aA' w x p g r a.welcome a.fenced free sh st c) ?_ ?_
 ·rw[show((a.ticks:Int)+1)=((r:Nat):Int) by have:=i' Y;omega];exact er' (i' G).1 r
 clear X f23;rintro x Z;obtain⟨c1,D,M,O,s1,Q⟩:=Z;have ac:x.cell? ⟨p,25,none⟩=some (.bool true):=by rw[t' D.ks.blk,D.ks.ae,I]
 have aa:=y' (⟨c1,D,M,O,s1,Q⟩:aA' w x p g r a.welcome a.fenced free sh st c);clear D M O s1 Q;go_wp2;go_ret;exact⟨rfl,g,free,sh,pl,st,i' aa,(i' G).2.1.flags _ _ _,(i' G).2.2.flags r a.welcome a.fenced⟩
theorem mJ' (D:aC' w p g a.ticks a.welcome a.fenced free sh st c) (hs:cv' op st a free pl) (J:aQ' a st.opening g free sh pl) (aC:a.ticks<=1000000000) (Y:a.epoch<=2147483647) (Z:a.fenced=false) (aa:a.welcome=false):
  Calls Tryz.prog 43 #[A' p] w fun F ab=>∃lv fs x,F= .returned lv/\bO' op w x p a.tick.1 c/\Below x.heap.size x ab/\Q' x.heap.size ab lv fs (a.tick.2.map fun l=>⟨l.toArray⟩) (fun _=>False):=by
 have ac:a.tick=({a with ticks:=a.ticks+1},[Wire.bytes 1 a.epoch 0 0 []]):=by unfold Mod.Ag.tick;rw[if_neg (by rw[Z];decide),if_pos aa]
 rw[ac];simp only[List.map_cons,List.map_nil];have ak:w.cell? ⟨p,23,none⟩=some (.int .i64 a.ticks):=by rw[t' D.ks.blk,D.ks.at']
 have f23:w.frozen? ⟨p,23,none⟩=false:=I' (i:=23) D.ks.blk;obtain⟨z,M⟩:∃z,z=a.ticks+1:=⟨_,rfl⟩;rw[<-M];have ao:=y' M;obtain⟨ep,G⟩:∃ep,ep=a.epoch:=⟨_,rfl⟩;have ap:st.opening=ep:=by rw[G];exact J.ep
 rw[<-G]at Y ⊢;have aq:=fun y=>y' (dM' 1 ep 0 0 ⟨#[]⟩ y (ov' ep Y));have O:=y' (And.intro D (And.intro hs J));have au:=hs.dead;have av:=y' G;clear D J hs ac M G;unfold A' at *;go_enter Tryz.func43,Tryz.ntmps43;go_upto_region 2 with fail;refine H' (fun x=>aA' w x p g z a.welcome a.fenced free sh st c) ?_ ?_
 ·rw[show((a.ticks:Int)+1)=((z:Nat):Int) by have:=i' ao;omega];exact er' (i' O).1 z
 clear ak f23;rintro x ax;obtain⟨c1,r,ad,ah,s1,ai⟩:=ax;have aD:x.cell? ⟨p,25,none⟩=some (.bool false):=by rw[t' r.ks.blk,r.ks.ae,Z]
 have aE:x.cell? ⟨p,24,none⟩=some (.bool false):=by rw[t' r.ks.blk,r.ks.aw,aa]
 have aF:x.cell? ⟨p,0,none⟩=some (.pointer (some ⟨c1.s,0,none⟩)):=by rw[t' r.ks.blk,r.ks.a0];rfl
 have Q:=ai' r.stt;rw[au]at Q;have ay:=y' Q;have U:=bq' r;rw[ap]at U;have az:=y' U;have aA:=y' (⟨c1,r,ad,ah,s1,ai⟩:aA' w x p g z a.welcome a.fenced free sh st c);clear r ad ah s1 ai Q U;unfold A' at *;go_wp2_with (first|(go_at_call 66;refine(i' ay).mono ?_;rintro F y ⟨rfl,V⟩;obtain rfl:x=y:=V.symm)|(go_at_call 52;refine(i' az).mono ?_;rintro F y ⟨rfl,V⟩;obtain rfl:x=y:=V.symm)|(go_at_call 67;refine(i' (aq _)).mono ?_;rintro F v ⟨aG,rfl,H,X⟩;obtain⟨aH,cap,rfl,_⟩:=H.shape;replace H:=y' H;replace X:=y' X));go_ret;have I:=i' X;have aB:=i' H;have e:=i' av;subst e;have aj:x.heap.size<=v.heap.size:=by have:=I.size;first|omega|(simp at this;omega)
 exact⟨_,_,x,rfl,⟨g,free,sh,pl,st,i' aA,(i' O).2.1.flags _ _ _,(i' O).2.2.flags z a.welcome a.fenced⟩,(by first|exact I.alloc I.size _|exact(((Below.refl _ x).alloc (Nat.le_refl _) _).trans (I.mono (by simp))).alloc aj _),eD' (World.ownsRow.alloc (aB.mono (by omega)) _) aj (heap_alloc_new _ _)⟩
theorem oC' (U:aC' w p g a.ticks a.welcome a.fenced free sh st c) (hs:cv' op st a free pl) (az:aQ' a st.opening g free sh pl) (bt:a.ticks<=1000000000) (aA:∀i,i < 3->(a.fl i).base+(a.fl i).kept.length < 4294967296) (aB:∀i,i < 3->∀x∈ (a.fl i).kept,x.1.size<=20/\x.2<=1000000000000) (ad:a.fenced=false) (ah:a.welcome=true):
  Calls Tryz.prog 43 #[A' p] w fun ai aN=>∃lv fs,ai= .returned lv/\sg' op w aN p a.tick.1 c lv fs (a.tick.2.map fun l=>⟨l.toArray⟩):=by
 have aO:w.cell? ⟨p,23,none⟩=some (.int .i64 a.ticks):=by rw[t' U.ks.blk,U.ks.at']
 have f23:w.frozen? ⟨p,23,none⟩=false:=I' (i:=23) U.ks.blk;obtain⟨r,Y⟩:∃r,r=a.ticks+1:=⟨_,rfl⟩;have aj:=cL' a;rw[nq' ad ah,<-Y]at aj;have aP:=y' aj;clear aj;rw[nq' ad ah,<-Y];have aQ:=y' Y;have aC:=fun(wr:World) (c2:Av) (H:Nat->List (Nat×Value)) (j:Nat) (hj:j < 3) (K:aC' wr p g (bt' a r j).ticks (bt' a r j).welcome (bt' a r j).fenced free H st c2) (aR:aQ' (bt' a r j) st.opening g free H pl)=>
  sc' K aR j hj (by show r≠0;omega) (by show r<= _;omega) (by rw[gx'];exact aA j hj) (by rw[gx'];exact aB j hj)
 have aS:=y' aC;have ak:=y' (And.intro U (And.intro hs az));have aT:=hs.dead;clear U az hs Y aC aA aB;unfold A' at *;go_enter Tryz.func43,Tryz.ntmps43;go_upto_region 2 with fail;refine H' (fun x=>aA' w x p g r a.welcome a.fenced free sh st c) ?_ ?_
 ·rw[show((a.ticks:Int)+1)=((r:Nat):Int) by have:=i' aQ;omega];exact er' (i' ak).1 r
 clear aO f23;rintro x aU;obtain⟨c1,F,aD,aE,s1,Z⟩:=aU;have aV:x.cell? ⟨p,25,none⟩=some (.bool false):=by rw[t' F.ks.blk,F.ks.ae,ad]
 have aW:x.cell? ⟨p,24,none⟩=some (.bool true):=by rw[t' F.ks.blk,F.ks.aw,ah]
 have aX:x.cell? ⟨p,0,none⟩=some (.pointer (some ⟨c1.s,0,none⟩)):=by rw[t' F.ks.blk,F.ks.a0];rfl
 have ao:=ai' F.stt;rw[aT]at ao;have aF:=y' ao;have aG:=y' (⟨c1,F,aD,aE,s1,Z⟩:aA' w x p g r a.welcome a.fenced free sh st c);clear F aD aE s1 Z ao;unfold A' at *;go_wp2_with (go_at_call 66;refine(i' aF).mono ?_;rintro ai y ⟨rfl,aY⟩;obtain rfl:x=y:=aY.symm);go_loopw[3,4,33] (fun v _ i wr=>∃j:Nat,j<=3/\i= .int .i64 j/\∃fs c2 H,Q' w.heap.size wr v fs (lr' a r j) (PaU p c2)/\aC' wr p g (bt' a r j).ticks (bt' a r j).welcome (bt' a r j).fenced free H st c2/\aQ' (bt' a r j) st.opening g free H pl/\Far (PaU p c) w wr/\(∀k,PaU p c2 k->PaU p c k\/w.heap.size<=k)/\c2.s=c.s/\c2.rv=c.rv) (fun _ _ i _=>3 - (intOf i).toNat)
 case atStart=>
  obtain⟨c2,aZ,ba,bb,s1,Z⟩:=i' aG;refine⟨0,by omega,rfl,[],c2,sh,⟨rfl,World.ownsRow_nil _ _ _ _,(fun j v hj=>by simp at hj),(fun i j u v hi=>by simp at hi),fun k O=>?_⟩,aZ,?_,ba,bb,s1,Z⟩
  ·rcases O with h|⟨j,hj,_⟩
   ·cases h
   ·simp at hj
  ·rw[qa'];exact(i' ak).2.2.flags r a.welcome a.fenced
 case round=>
  obtain⟨j,hj,rfl,fs,c2,H,z,I,Q,D,G,J,M⟩:=hrel;clear aG aF aX aW aV;by_cases bc:j < 3
  ·have aH:=y' ((i' aS) wr c2 H j bc I Q);have bu:(0:Int)<=(j:Int):=by omega
   have aI:(j:Int) < 3:=by omega
   have be:=lu' a r j;have bw:=lt' (bt' a r j) j (bt' a r j).ticks;obtain⟨V,ap⟩:∃n,n=fs.length:=⟨_,rfl⟩;have bz:V<=8:=by have:=z.len;omega
   have bf:=y' ap;have bA:=D.size;have aa:=z.row;rw[<-ap]at aa;obtain⟨ab,cap,rfl,_⟩:=(aq' aa).shape;have bg:=y' aa;clear aa ap be;have X:=y' (And.intro z (And.intro I (And.intro D (And.intro G (And.intro J M)))));clear z I Q D G J M;unfold A' at aH;go_upto_region 10 with fail;go_upto_region 11 with (first
    |(go_at_call 68;(refine(i' aH).mono ?_;rintro ai y ⟨bB,aq,c3,bh,rfl,k1,k2,k3,k4,k5,k6,k7⟩;obtain⟨au,av⟩:∃n,n=aq.length:=⟨_,rfl⟩;have bC:au<=4:=(by have:=k1.len;omega);have ac:=k1.row;rw[<-av]at ac;have bi:=y' av;have bD:=k4.size;obtain⟨bj,bk,bl,_⟩:=(aq' ac).shape;subst bl;have bm:=y' ac;clear ac av;have ax:=y' (And.intro k1 (And.intro k2 (And.intro k3 (And.intro k4 (And.intro k5 (And.intro k6 k7))))));clear k1 k2 k3 k4 k5 k6 k7))
    |(at_builtin;(refine ls' rfl (.tmp 36) (.tmp 39) 32 rfl w.heap.size 48 (.slice none 0 0) 1 24 Tryz.underlying32 (by kernel_rfl) rfl (by decide) (.slice ab V cap) V fs (R' (i' bg) (fun k O=>(i' ax).2.2.2.1.rest k ((i' X).1.lt k (.inl O)).2 ((i' X).1.clear k (.inl O)))) rfl wr.heap.size (.slice bj au bk) au aq (i' bm) rfl (i' ax).1.one (by unfold maxLen;omega) (by omega) (by omega) ?_;intro bE bF ay aJ aK;obtain⟨bG,bH,bn,_⟩:=(aq' ay).shape;subst bn;have bo:=y' (And.intro ay (And.intro aJ aK));clear ay aJ aK)))
   go_wp2;go_roundw
   case rel=>
    obtain⟨z,I,D,G,J,M⟩:=i' X;obtain⟨k1,k2,k3,k4,k5,k6,k7⟩:=i' ax;obtain⟨bp,aL,bq⟩:=i' bo;have hF:=mH' (lv:= .slice ab V cap) z k1 k4 k5 k2.lt D.size (by rw[<-i' bf,<-i' bi];exact bp) aL bq;have br:∀k,PaU p c3 k->¬ (Value.slice ab V cap).ownBlock=some k:=fun k hu e=>by
     have h1:=z.lt k (.inl e);rcases k5 k hu with h2|h2
     ·exact z.clear k (.inl e) h2
     ·omega
    have aM:=br' aL;refine⟨j+1,by omega,by go_num,fs++aq,c3,bh,?_,k2.far aM (fun k hu e=>br k hu (by simpa using e)),?_,(D.trans k4 (fun k O hu=>?_)).trans aM (fun k O e=>?_),fun k hu=>?_,k6.trans J,k7.trans M⟩
    ·rw[jX'];exact hF
    ·have:=k3;rw[show(bt' a r j).ticks=r from rfl,pZ']at this;exact this
    ·rcases G k hu with h|h
     ·exact h
     ·omega
    ·have:=(z.lt k (.inl (by simpa using e))).1;omega
    ·rcases k5 k hu with h|h
     ·exact G k h
     ·exact .inr (by omega)
   case measure=>simp[intOf];omega
  ·have aI:j=3:=by omega
   subst aI;have X:=y' (And.intro z (And.intro I (And.intro Q (And.intro D (And.intro G (And.intro J M))))));obtain⟨ab,cap,rfl,_⟩:=(aq' z.row).shape;clear z I Q D G J M;go_wp2;go_ret;obtain⟨z,I,Q,D,G,J,M⟩:=i' X;exact⟨_,fs,rfl,c2,z,⟨g,free,H,pl,st,I,(i' ak).2.1.same (fun i _=>(i' aP) i),Q⟩,D,G,J,M⟩
end
theorem nw' {op:Nat×Nat} {w x r:World} {p:Nat} {a':Mod.Ag} {c:Av} {lv:Value} {fs:List Value} {z:List ByteArray} (h:bO' op w x p a' c) (D:Below x.heap.size x r) (G:Q' x.heap.size r lv fs z (fun _=>False)):sg' op w r p a' c lv fs z:=by
 obtain⟨g,free,sh,H,st,⟨I,K,F,N,s1,J⟩,hs,M⟩:=h;exact⟨I,G.up F.size K.lt,⟨g,free,sh,H,st,K.below D,hs,M⟩,F.trans (C' D) (fun _ _ h=>h),N,s1,J⟩
section
variable {w:World} {p:Nat} {g:Nat->Nat} {free:List Nat} {sh:Nat->List (Nat×Value)} {st:Mod.Stv} {c:Av} {a:Mod.Ag} {pl:Nat->List Nat} {op:Nat×Nat}
theorem qp' {N:Nat} (D:aC' w p g a.ticks a.welcome a.fenced free sh st c) (hs:cv' op st a free pl) (F:aQ' a st.opening g free sh pl) (r:aL' N a) (Q:N < 1000000000):
  Calls Tryz.prog 43 #[A' p] w fun G H=>∃lv fs,G= .returned lv/\sg' op w H p a.tick.1 c lv fs (a.tick.2.map fun l=>⟨l.toArray⟩):=by
 have I:a.ticks<=1000000000:=by have:=r.tk;omega
 cases z:a.fenced with
 |true=>
  refine(lC' D hs F I z).mono ?_;rintro G H ⟨rfl,h⟩;have O:a.tick.2=[]:=by unfold Mod.Ag.tick;rw[if_pos z]
  rw[O];exact⟨_,[],rfl,nw' h (Below.refl _ _) ⟨rfl,World.ownsRow_nil _ _ _ _,(fun j v hj=>by simp at hj),(fun i j u v hi=>by simp at hi),fun k U=>fun h=>h⟩⟩
 |false=>
  cases J:a.welcome with
  |false=>refine(mJ' D hs F I r.ep z J).mono ?_;rintro G H ⟨lv,fs,x,rfl,h1,h2,h3⟩;exact⟨lv,fs,rfl,nw' h1 h2 h3⟩
  |true=>exact oC' D hs F I (fun i hi=>by have:=r.sum i hi;omega) (fun i hi x M=>⟨(r.bod i hi x M).1,by have:=(r.bod i hi x M).2;omega⟩) z J
end
theorem lD':(Tryz.prog.info? 188).map (·.size)=some 2:=by kernel_rfl
theorem dY' (S:List UInt8) (D:S.length=64) (g:Nat) (t:TypeId) (w:World) (h:w.heap[g]? =some (.cells (bv S).toArray t (0,0))) (i n cap:Nat) (hi:i+4<=64) (z:4<=n):
  Calls Tryz.prog 109 #[.slice (some ⟨g,i,none⟩) n cap] w fun e w'=>e= .returned (.int .u32 (Wire.numAt S i))/\Below w.heap.size w w':=by
 have r:∀j,j < 64->w.cell? ⟨g,j,none⟩=some (.int .u8 (S.getD j 0).toNat):=fun j hj=>by rw[t' h,sT' (by omega)]
 refine(dA' g i n cap (S.getD i 0) (S.getD (i+1) 0) (S.getD (i+2) 0) (S.getD (i+3) 0) w z (r _ (by omega)) (r _ (by omega)) (r _ (by omega)) (r _ (by omega))).mono ?_;rintro F y ⟨rfl,k,rfl⟩;exact⟨rfl,below_drewN (Below.refl _ _) k⟩
theorem dd' (S:List UInt8) (i:Nat):((Wire.numAt S i).toNat:Int)=Wire.numAt S i:=by have:=Wire.numAt_range S i;omega
theorem vw' (S:List UInt8):(Mod.ctOf S:Int)=Wire.numAt S 4+Wire.numAt S 8 * 4294967296:=by
 unfold Mod.ctOf;have:=dd' S 4;have:=dd' S 8;omega
theorem xO' (S:List UInt8):bits BinOp.or IntKind.u64 (Wire.numAt S 4) (Wire.numAt S 8 * 4294967296)=(Mod.ctOf S:Int):=by
 have h1:=Wire.numAt_range S 4;have h2:=Wire.numAt_range S 8;rw[u64_or32 _ _ h1.1 h1.2 (by omega) (by omega) (by omega),vw']
theorem jY' (S:List UInt8) (I:S.length=64) (w:World):
  Calls Tryz.prog 197 #[.agg (bv S).toArray] w fun F w'=>F= .returned (.agg #[.int .u32 (Mod.opOf S), .int .u64 (Mod.ctOf S)])/\Below w.heap.size w w':=by
 have V:=fun(y:World) (h:y.heap[w.heap.size]? =some (.cells (bv S).toArray 214 (0,0)))=>y' (dY' S I w.heap.size _ y h 0 64 64 (by omega) (by omega));have X:=fun(y:World) (h:y.heap[w.heap.size]? =some (.cells (bv S).toArray 214 (0,0)))=>y' (dY' S I w.heap.size _ y h 4 60 60 (by omega) (by omega));have Y:=fun(y:World) (h:y.heap[w.heap.size]? =some (.cells (bv S).toArray 214 (0,0)))=>y' (dY' S I w.heap.size _ y h 8 56 56 (by omega) (by omega));have J:=y' (xO' S);have Z:Hid ((Mod.opOf S:Int)=Wire.numAt S 0):=dd' S 0;obtain⟨ct,aa⟩:∃ct,ct=Mod.ctOf S:=⟨_,rfl⟩;obtain⟨on,ab⟩:∃on,on=Mod.opOf S:=⟨_,rfl⟩;rw[<-aa]at J ⊢;rw[<-ab]at Z ⊢;clear aa ab;have ap:=Wire.numAt_range S 4;have aq:=Wire.numAt_range S 8;obtain⟨aF,aG⟩:=ap;obtain⟨aH,aI⟩:=aq;go_enter Tryz.func197,Tryz.ntmps197;go_upto_region 1 with fail;refine H' (fun x=>x.heap[w.heap.size]? =some (.cells (bv S).toArray 214 (0,0))/\x.heap[w.heap.size+1]? =some (.cells #[.int .u32 0, .int .u64 0] 188 (0,0))/\Below w.heap.size w x) (ca' _ _ _) ?_;rintro x ⟨h0,h1,ac⟩;have au:=lt_of_block h1;have av:=y' h0;have ax:=y' h1;have ad:=y' ac;clear h0 h1 ac;generalize aJ:Wire.numAt S 0=z at *;generalize aK:Wire.numAt S 4=G at *;generalize aL:Wire.numAt S 8=D at *;have aM:IntKind.u64.wrap G=G:=by rw[IntKind.wrap_u64];omega
 have aN:IntKind.u64.wrap D=D:=by rw[IntKind.wrap_u64];omega
 have aO:IntKind.u64.wrap (D * 4294967296)=D * 4294967296:=by rw[IntKind.wrap_u64];omega
 refine ag' (by kernel_rfl)
  [fun v _=>v= .slice (some ⟨w.heap.size,0,none⟩) 64 64,fun v _=>v= .int .u32 z,fun v _=>v= .slice (some ⟨w.heap.size,4,none⟩) 60 60,fun v _=>v= .int .u32 G,fun v _=>v= .int .u64 G,
   fun v _=>v= .slice (some ⟨w.heap.size,8,none⟩) 56 56,fun v _=>v= .int .u32 D,fun v _=>v= .int .u64 D,fun v _=>v= .int .u64 (D * 4294967296),fun v _=>v= .int .u64 ct,fun v _=>v= .agg #[.int .u32 z, .int .u64 ct],fun _ _=>True]
  [[(1,none)],[(3,some 0)],[(1,none)],[(5,some 2)],[(6,some 3)],[(1,none)],[(8,some 5)],[(9,some 6)],[(10,some 7)],[(7,some 4),(11,some 8)],[(4,some 1),(12,some 9)],[(2,none),(13,some 10)]] [some 3,some 4,some 5,some 6,some 7,some 8,some 9,some 10,some 11,some 12,some 13,none] [false,false,false,true,true,true,true,true,true,true,true,true,true,true]
  11 _ rfl rfl (by kernel_rfl) (by kernel_rfl) (by kernel_rfl) (by kernel_rfl) (by kernel_rfl) (by kernel_rfl) ?_ ?_ ?_
 ·repeat' (first|exact O' _|exact X'|exact trivial|apply And.intro)
 ·refine⟨?_,?_,?_,?_,?_,?_,?_,?_,?_,?_,?_,trivial⟩;all_goals
   intro a y ah ai;have H:=(ah.block _ (by omega:w.heap.size < x.heap.size)).trans (i' av);have ay:=V y H;have az:=X y H;have aA:=Y y H;clear ah H V X Y;simp only[M',List.getD_cons_zero,List.getD_cons_succ,Array.getD_eq_getD_getElem?]at ai;try simp at ai
  ·go_simp;first|exact Below.refl _ _|exact⟨_,rfl,Below.refl _ _,rfl⟩
  ·go_simp;refine(i' ay).mono ?_;rintro F aj ⟨rfl,r⟩;first|exact r|exact⟨rfl,r⟩|exact⟨_,rfl,r,rfl⟩
  ·go_simp;first|exact Below.refl _ _|exact⟨_,rfl,Below.refl _ _,rfl⟩
  ·go_simp;refine(i' az).mono ?_;rintro F aj ⟨rfl,r⟩;first|exact r|exact⟨rfl,r⟩|exact⟨_,rfl,r,rfl⟩
  ·go_simp;first|exact Below.refl _ _|exact⟨_,rfl,Below.refl _ _,rfl⟩
  ·go_simp;first|exact Below.refl _ _|exact⟨_,rfl,Below.refl _ _,rfl⟩
  ·go_simp;refine(i' aA).mono ?_;rintro F aj ⟨rfl,r⟩;first|exact r|exact⟨rfl,r⟩|exact⟨_,rfl,r,rfl⟩
  ·go_simp;first|exact Below.refl _ _|exact⟨_,rfl,Below.refl _ _,rfl⟩
  ·go_simp;first|exact Below.refl _ _|exact⟨_,rfl,Below.refl _ _,rfl⟩
  ·go_simp;first|exact⟨by rw[i' J],Below.refl _ _⟩|exact⟨_,rfl,Below.refl _ _,by rw[<-i' J]⟩
  ·go_simp;first|exact Below.refl _ _|exact⟨_,rfl,Below.refl _ _,rfl⟩
 ·intro f y M O;simp only[af',List.take]at O;have aB:=O.2.2.2.2.2.2.2.2.2.2.1;have Q:=(M.block _ au).trans (i' ax);have ak:=y' ((i' ad).trans (M.mono (i' ad).size));clear O M;simp only[Y',aB];refine wp_store_row 188 (.tmp 2) (.tmp 13) rfl (w.heap.size+1) #[.int .u32 z, .int .u64 ct] (by simp[Act.eval]) (by simp[Act.eval]) 188 _ Q (by rw[lD'];rfl) (by simp) (by rw[Array.all_eq_true_iff_forall_mem];intro u hu;simp at hu;rcases hu with rfl|rfl <;> rfl) ?_;have U:=setRow_heap y (w.heap.size+1) _ #[.int .u32 z, .int .u64 ct] 188 (0,0) Q;have aC:=y' (aU' y (w.heap.size+1) #[.int .u32 z, .int .u64 ct]);generalize f 3=aP;generalize f 4=aQ;generalize f 5=aR;generalize f 6=aS;generalize f 7=aT;generalize f 8=aU;generalize f 9=aV;generalize f 10=aW;generalize f 11=aX;generalize f 12=aY;generalize y.setRow (w.heap.size+1) #[.int .u32 z, .int .u64 ct]=ao at *;have aD:ao.cell? ⟨w.heap.size+1,0,none⟩=some (.int .u32 z):=t' (i:=0) U;have aE:ao.cell? ⟨w.heap.size+1,1,none⟩=some (.int .u64 ct):=t' (i:=1) U;clear U Q;go_simp;go_wp2;refine bodyPost_ret (v:= .agg #[.int .u32 z, .int .u64 ct]) (by simp[results,Tryz.results197,go_sem,aD,aE]) rfl ⟨by rw[i' Z],?_⟩;exact(i' ak).trans ((i' aC).below (i' ak).size (fun k aZ e=>by omega))
theorem jZ' (o c:Nat) (w:World):Calls Tryz.prog 198 #[.agg #[.int .u32 o, .int .u64 c]] w fun r w'=>r= .returned (.bool (Mod.isStamp o))/\Below w.heap.size w w':=by
 by_cases h1:(1:Int)<=(o:Int)
 ·by_cases h2:(o:Int)<=1073741824
  ·go_enter Tryz.func198,Tryz.ntmps198;go_wp2;go_ret;exact⟨bF' (by simp[Mod.isStamp];omega),(Below.refl _ _).alloc (Nat.le_refl _) _⟩
  ·go_enter Tryz.func198,Tryz.ntmps198;go_wp2;go_ret;exact⟨bF' (by simp[Mod.isStamp];omega),(Below.refl _ _).alloc (Nat.le_refl _) _⟩
 ·go_enter Tryz.func198,Tryz.ntmps198;go_wp2;go_ret;exact⟨bF' (by simp[Mod.isStamp];omega),(Below.refl _ _).alloc (Nat.le_refl _) _⟩
def gI' (h:Mod.Hd):Value:= .agg #[.int .u32 h.o, .int .u64 h.c, .int .i64 h.a, .int .i64 h.b, .int .i64 h.d]
def hdK (o c a b d k:Nat):Array Value:= #[.int .u32 o, .int .u64 c, .int .i64 (if 0 < k then a else 0:Nat), .int .i64 (if 1 < k then b else 0:Nat), .int .i64 (if 2 < k then d else 0:Nat)]
theorem bV':Mod.nought=aS':=rfl
theorem mK' (S:List UInt8) (aF:S.length=64) (aO:S≠aS') (w:World):Calls Tryz.prog 159 #[.agg (bv S).toArray] w fun Q w'=>
  ∃h:Mod.Hd,Q= .returned (.tuple #[gI' h, .bool (Mod.headOk S)])/\(Mod.headOk S=true->h=Mod.hdOf S)/\Below w.heap.size w w':=by
 have aU:=fun y=>iY' (S:=S) (T:=aS') aF az' y;rw[decide_eq_false aO]at aU;have aG:Mod.headOk S=((Mod.hdOf S).small&& (Mod.isStamp (Mod.opOf S) &&decide (Mod.sealH (Mod.hdOf S)=S))):=by unfold Mod.headOk;rw[bV',decide_eq_false aO,Bool.false_or]
 have aK:=fun(i n cap:Nat) (hi:i+4<=64) (O:4<=n) (y:World) (h:y.heap[w.heap.size]? =some (.cells (bv S).toArray 214 (0,0)))=>dY' S aF w.heap.size _ y h i n cap hi O;have ak:=fun y h=>y' (aK 12 52 52 (by omega) (by omega) y h);have ao:=fun y h=>y' (aK 16 48 48 (by omega) (by omega) y h);have ap:=fun y h=>y' (aK 20 44 44 (by omega) (by omega) y h);rw[<-dd' S 12]at ak;rw[<-dd' S 16]at ao;rw[<-dd' S 20]at ap;have bn:=Wire.numAt_range S 12;have bo:=Wire.numAt_range S 16;have bp:=Wire.numAt_range S 20;have aV:=fun y=>y' (jY' S aF y);have aW:=Mod.opOf_lt S;have aX:=Mod.ctOf_lt S;have aq:=fun y=>y' (jZ' (Mod.opOf S) (Mod.ctOf S) y);have aY:=fun y=>y' (hX' (Mod.opOf S) (Mod.ctOf S) (Wire.numAt S 12).toNat (Wire.numAt S 16).toNat (Wire.numAt S 20).toNat y aW aX (by omega) (by omega) (by omega));have aZ:=Mod.length_sealH (Mod.hdOf S);have au:=fun y=>iY' (S:=Mod.sealH (Mod.hdOf S)) (T:=S) aZ aF y;have aP:Mod.hdOf S=⟨Mod.opOf S,Mod.ctOf S,(Wire.numAt S 12).toNat,(Wire.numAt S 16).toNat,(Wire.numAt S 20).toNat⟩:=rfl;have ba:(Mod.hdOf S).small=(decide ((Wire.numAt S 12).toNat<=2147483647) && (decide ((Wire.numAt S 16).toNat<=2147483647) &&decide ((Wire.numAt S 20).toNat<=2147483647))):=rfl;rw[ba]at aG;have ab:∀y,Hid (Calls Tryz.prog 164 #[gI' (Mod.hdOf S)] y fun Q w'=>Q= .returned (.agg (bv (Mod.sealH (Mod.hdOf S))).toArray)/\Below y.heap.size y w'):=aY;rw[aP]at ab au ⊢;unfold gI' at ab;simp only at ab;have bN:(Wire.numAt S 12).toNat < 4294967296:=by omega
 have r:(Wire.numAt S 16).toNat < 4294967296:=by omega
 have hd:(Wire.numAt S 20).toNat < 4294967296:=by omega
 rw[aP]at aG;clear aY aK aP ba bn bo bp aZ;generalize (Wire.numAt S 12).toNat=a at *;generalize (Wire.numAt S 16).toNat=b at *;generalize (Wire.numAt S 20).toNat=d at *;generalize Mod.opOf S=o at *;generalize Mod.ctOf S=c at *;obtain⟨T,bb⟩:∃T,T=Mod.sealH ⟨o,c,a,b,d⟩:=⟨_,rfl⟩;rw[<-bb]at ab au aG;clear bb;obtain⟨ok,bc⟩:∃ok,ok=Mod.headOk S:=⟨_,rfl⟩;rw[<-bc]at aG ⊢;clear bc;have ac:=y' aG;clear aG aO aW aX;go_enter Tryz.func159,Tryz.ntmps159;go_upto_region 1 with fail;refine H' (fun x=>x.heap[w.heap.size]? =some (.cells (bv S).toArray 214 (0,0))/\x.heap[w.heap.size+1]? =some (.cells #[.int .u32 0, .int .u64 0, .int .i64 0, .int .i64 0, .int .i64 0] 199 (0,0))/\Below w.heap.size w x) (ca' _ _ _) ?_;rintro x ⟨h0,h1,J⟩;have aB:=y' h0;have aC:=y' h1;have av:=y' J;clear h0 h1 J;go_upto_region 4 with (first
  |(refine bW' rfl (.tmp 1) rfl w.heap.size rfl 214 S aF (i' aB) ?_)
  |(refine cb' rfl rfl ?_;go_simp)
  |(go_at_call 197;refine(i' (aV _)).mono ?_;rintro Q y ⟨rfl,D⟩))
 have bq:=D.size;obtain⟨z,aQ⟩:∃z,z=y.heap.size:=⟨_,rfl⟩;rw[<-aQ];have bO:w.heap.size+1 < z:=by have:=lt_of_block (i' aC);omega
 refine H' (fun x=>x.heap[w.heap.size]? =some (.cells (bv S).toArray 214 (0,0))/\x.heap[w.heap.size+1]? =some (.cells #[.int .u32 0, .int .u64 0, .int .i64 0, .int .i64 0, .int .i64 0] 199 (0,0))/\x.heap[z]? =some (.cells (hdK o c a b d 0) 199 (0,0))/\Below w.heap.size w x) ?_ ?_
 ·have br:=lt_of_block (i' aB);have aR:=lt_of_block (i' aC);refine⟨(hao _ _ (by omega)).trans ((D.block _ br).trans (i' aB)),(hao _ _ (by omega)).trans ((D.block _ aR).trans (i' aC)),by rw[aQ];exact heap_alloc_new _ _,((i' av).trans (D.mono (i' av).size)).alloc (by omega) _⟩
 clear D bq aQ aB aC av aU aV x;rintro x ⟨h0,h1,h4,J⟩;have be:=y' (And.intro h0 (And.intro h1 (And.intro h4 J)));clear h0 h1 h4 J y;go_wp2;go_loopw[5,6,14] (fun _ _ i wr=>∃k:Nat,k<=3/\i= .int .i64 k/\(wr.heap[w.heap.size]? =some (.cells (bv S).toArray 214 (0,0))/\wr.heap[w.heap.size+1]? =some (.cells #[.int .u32 0, .int .u64 0, .int .i64 0, .int .i64 0, .int .i64 0] 199 (0,0))/\wr.heap[z]? =some (.cells (hdK o c a b d k) 199 (0,0))/\Below w.heap.size w wr)/\(0 < k->a<=2147483647)/\(1 < k->b<=2147483647)/\(2 < k->d<=2147483647)) (fun _ _ i _=>3 - (intOf i).toNat)
 case atStart=>exact⟨0,by omega,rfl,i' be,by omega,by omega,by omega⟩
 case round=>
  obtain⟨k,bf,rfl,⟨h0,h1,h4,J⟩,k0,k1,k2⟩:=hrel;clear be;have aL:=lt_of_block h4;have aD:∀i,wr.frozen? ⟨z,i,none⟩=false:=fun i=>I' h4;have ah:∀i,wr.frozen? ⟨w.heap.size+1,i,none⟩=false:=fun i=>I' h1;have aR:=lt_of_block h1;have ai:∀ (n:Nat) (y:World),2147483647 < n->Below wr.heap.size wr y->Hid (y.heap[w.heap.size+1]? =some (.cells #[.int .u32 0, .int .u64 0, .int .i64 0, .int .i64 0, .int .i64 0] 199 (0,0))/\Below w.heap.size w y):=fun n y _ r=>⟨(r.block _ aR).trans h1,J.trans (r.mono J.size)⟩;have aj:∀ (v:Value) (j:Nat) (y:World),wr.heap[z]? =some (.cells (hdK o c a b d j) 199 (0,0))->(hdK o c a b d j).setIfInBounds (2+j) v=hdK o c a b d (j+1)->Below wr.heap.size wr y->
    (y.setCell ⟨z,2+j,none⟩ v).heap[w.heap.size]? =some (.cells (bv S).toArray 214 (0,0))/\(y.setCell ⟨z,2+j,none⟩ v).heap[w.heap.size+1]? =some (.cells #[.int .u32 0, .int .u64 0, .int .i64 0, .int .i64 0, .int .i64 0] 199 (0,0))/\(y.setCell ⟨z,2+j,none⟩ v).heap[z]? =some (.cells (hdK o c a b d (j+1)) 199 (0,0))/\Below w.heap.size w (y.setCell ⟨z,2+j,none⟩ v):=by
   intro v j y h4 bt r;have hs:=S' y z (2+j) v;refine⟨hs.blk ((r.block _ (by omega)).trans h0) (by omega),hs.blk ((r.block _ (by omega)).trans h1) (by omega),?_,(J.trans (r.mono J.size)).setCell (by show w.heap.size<=z;omega) _⟩;rw[<-bt];exact ah' ((r.block _ aL).trans h4)
  obtain rfl|rfl|rfl|rfl:k=0\/k=1\/k=2\/k=3:=by omega
  ·have O:=y' (i' (ak wr h0));by_cases bg:(2147483647:Int) < (a:Int)
   ·have ax:=fun y r=>ai a y (by omega) r;have ay:=ac;clear h0 h4 J aD ak ao ap ai aj h1 ah aq ab au ac k0 k1 k2;go_upto_region 8 with (go_at_call 109;refine(i' O).mono ?_;rintro Q y ⟨rfl,D⟩);obtain⟨H,az⟩:=i' (ax y D);have aH:=y' az;have V:=t' (i:=0) H;have X:=t' (i:=1) H;have Y:=t' (i:=2) H;have Z:=t' (i:=3) H;have aa:=t' (i:=4) H;have ah:∀i,y.frozen? ⟨w.heap.size+1,i,none⟩=false:=fun i=>I' H;simp at V X Y Z aa;clear D ax H az O;go_wp2;refine bodyPost_ret (v:= .tuple #[.agg #[.int .u32 0, .int .u64 0, .int .i64 0, .int .i64 0, .int .i64 0], .bool false]) (by simp[results,Tryz.results159,go_sem,V,X,Y,Z,aa]) rfl ⟨⟨0,0,0,0,0⟩,?_,fun h=>?_,?_⟩
    ·have:ok=false:=by rw[i' ay,decide_eq_false (show ¬a<=2147483647 by omega)];simp
     rw[this];rfl
    ·have:ok=false:=by rw[i' ay,decide_eq_false (show ¬a<=2147483647 by omega)];simp
     rw[this]at h;cases h
    ·exact(((((i' aH).setCell (p:=⟨w.heap.size+1,0,none⟩) (by simp) _).setCell (p:=⟨w.heap.size+1,1,none⟩) (by simp) _).setCell (p:=⟨w.heap.size+1,2,none⟩) (by simp) _).setCell (p:=⟨w.heap.size+1,3,none⟩) (by simp) _).setCell (p:=⟨w.heap.size+1,4,none⟩) (by simp) _
   ·have aA:=fun y r=>y' (aj (.int .i64 a) 0 y h4 rfl r);have M:=y' (And.intro k0 (And.intro k1 k2));have bh:IntKind.i64.wrap (a:Int)=(a:Int):=by rw[IntKind.wrap_i64];omega
    clear h0 h1 J ah ak ao ap ai aj aq ab au ac k0 k1 k2 aD;go_upto_region 8 with (go_at_call 109;refine(i' O).mono ?_;rintro Q y ⟨rfl,D⟩);have ad:=(D.block _ aL).trans h4;have bi:∀i,y.frozen? ⟨z,i,none⟩=false:=fun i=>I' ad;have bj:y.cell? ⟨z,2,none⟩=some (.int .i64 0):=by rw[t' ad];rfl
    have aI:=y' (i' (aA y D));clear h4 D ad aA O;go_wp2;go_roundw
    case rel=>exact⟨1,by omega,rfl,i' aI,by first|omega|(intro _;exact(i' M).1 (by omega)),by first|omega|(intro _;exact(i' M).2.1 (by omega)),by first|omega|(intro _;exact(i' M).2.2 (by omega))⟩
    case measure=>simp[intOf]
  ·have O:=y' (i' (ao wr h0));by_cases bg:(2147483647:Int) < (b:Int)
   ·have ax:=fun y r=>ai b y (by omega) r;have ay:=ac;clear h0 h4 J aD ak ao ap ai aj h1 ah aq ab au ac k0 k1 k2;go_upto_region 8 with (go_at_call 109;refine(i' O).mono ?_;rintro Q y ⟨rfl,D⟩);obtain⟨H,az⟩:=i' (ax y D);have aH:=y' az;have V:=t' (i:=0) H;have X:=t' (i:=1) H;have Y:=t' (i:=2) H;have Z:=t' (i:=3) H;have aa:=t' (i:=4) H;have ah:∀i,y.frozen? ⟨w.heap.size+1,i,none⟩=false:=fun i=>I' H;simp at V X Y Z aa;clear D ax H az O;go_wp2;refine bodyPost_ret (v:= .tuple #[.agg #[.int .u32 0, .int .u64 0, .int .i64 0, .int .i64 0, .int .i64 0], .bool false]) (by simp[results,Tryz.results159,go_sem,V,X,Y,Z,aa]) rfl ⟨⟨0,0,0,0,0⟩,?_,fun h=>?_,?_⟩
    ·have:ok=false:=by rw[i' ay,decide_eq_false (show ¬b<=2147483647 by omega)];simp
     rw[this];rfl
    ·have:ok=false:=by rw[i' ay,decide_eq_false (show ¬b<=2147483647 by omega)];simp
     rw[this]at h;cases h
    ·exact(((((i' aH).setCell (p:=⟨w.heap.size+1,0,none⟩) (by simp) _).setCell (p:=⟨w.heap.size+1,1,none⟩) (by simp) _).setCell (p:=⟨w.heap.size+1,2,none⟩) (by simp) _).setCell (p:=⟨w.heap.size+1,3,none⟩) (by simp) _).setCell (p:=⟨w.heap.size+1,4,none⟩) (by simp) _
   ·have aA:=fun y r=>y' (aj (.int .i64 b) 1 y h4 rfl r);have M:=y' (And.intro k0 (And.intro k1 k2));have bh:IntKind.i64.wrap (b:Int)=(b:Int):=by rw[IntKind.wrap_i64];omega
    clear h0 h1 J ah ak ao ap ai aj aq ab au ac k0 k1 k2 aD;go_upto_region 8 with (go_at_call 109;refine(i' O).mono ?_;rintro Q y ⟨rfl,D⟩);have ad:=(D.block _ aL).trans h4;have bi:∀i,y.frozen? ⟨z,i,none⟩=false:=fun i=>I' ad;have bj:y.cell? ⟨z,3,none⟩=some (.int .i64 0):=by rw[t' ad];rfl
    have aI:=y' (i' (aA y D));clear h4 D ad aA O;go_wp2;go_roundw
    case rel=>exact⟨2,by omega,rfl,i' aI,by first|omega|(intro _;exact(i' M).1 (by omega)),by first|omega|(intro _;exact(i' M).2.1 (by omega)),by first|omega|(intro _;exact(i' M).2.2 (by omega))⟩
    case measure=>simp[intOf]
  ·have O:=y' (i' (ap wr h0));by_cases bg:(2147483647:Int) < (d:Int)
   ·have ax:=fun y r=>ai d y (by omega) r;have ay:=ac;clear h0 h4 J aD ak ao ap ai aj h1 ah aq ab au ac k0 k1 k2;go_upto_region 8 with (go_at_call 109;refine(i' O).mono ?_;rintro Q y ⟨rfl,D⟩);obtain⟨H,az⟩:=i' (ax y D);have aH:=y' az;have V:=t' (i:=0) H;have X:=t' (i:=1) H;have Y:=t' (i:=2) H;have Z:=t' (i:=3) H;have aa:=t' (i:=4) H;have ah:∀i,y.frozen? ⟨w.heap.size+1,i,none⟩=false:=fun i=>I' H;simp at V X Y Z aa;clear D ax H az O;go_wp2;refine bodyPost_ret (v:= .tuple #[.agg #[.int .u32 0, .int .u64 0, .int .i64 0, .int .i64 0, .int .i64 0], .bool false]) (by simp[results,Tryz.results159,go_sem,V,X,Y,Z,aa]) rfl ⟨⟨0,0,0,0,0⟩,?_,fun h=>?_,?_⟩
    ·have:ok=false:=by rw[i' ay,decide_eq_false (show ¬d<=2147483647 by omega)];simp
     rw[this];rfl
    ·have:ok=false:=by rw[i' ay,decide_eq_false (show ¬d<=2147483647 by omega)];simp
     rw[this]at h;cases h
    ·exact(((((i' aH).setCell (p:=⟨w.heap.size+1,0,none⟩) (by simp) _).setCell (p:=⟨w.heap.size+1,1,none⟩) (by simp) _).setCell (p:=⟨w.heap.size+1,2,none⟩) (by simp) _).setCell (p:=⟨w.heap.size+1,3,none⟩) (by simp) _).setCell (p:=⟨w.heap.size+1,4,none⟩) (by simp) _
   ·have aA:=fun y r=>y' (aj (.int .i64 d) 2 y h4 rfl r);have M:=y' (And.intro k0 (And.intro k1 k2));have bh:IntKind.i64.wrap (d:Int)=(d:Int):=by rw[IntKind.wrap_i64];omega
    clear h0 h1 J ah ak ao ap ai aj aq ab au ac k0 k1 k2 aD;go_upto_region 8 with (go_at_call 109;refine(i' O).mono ?_;rintro Q y ⟨rfl,D⟩);have ad:=(D.block _ aL).trans h4;have bi:∀i,y.frozen? ⟨z,i,none⟩=false:=fun i=>I' ad;have bj:y.cell? ⟨z,4,none⟩=some (.int .i64 0):=by rw[t' ad];rfl
    have aI:=y' (i' (aA y D));clear h4 D ad aA O;go_wp2;go_roundw
    case rel=>exact⟨3,by omega,rfl,i' aI,by first|omega|(intro _;exact(i' M).1 (by omega)),by first|omega|(intro _;exact(i' M).2.1 (by omega)),by first|omega|(intro _;exact(i' M).2.2 (by omega))⟩
    case measure=>simp[intOf]
  ·have aB:=y' h0;have aC:=y' h1;have bk:Hid (wr.heap[z]? =some (.cells #[.int .u32 o, .int .u64 c, .int .i64 a, .int .i64 b, .int .i64 d] 199 (0,0))):=h4;have av:=y' J;have M:=y' (And.intro (k0 (by omega)) (And.intro (k1 (by omega)) (k2 (by omega))));clear h0 h1 h4 J aD ah ak ao ap ai aj k0 k1 k2;go_upto_region 12 with fail;cases aM:Mod.isStamp o with
   |true=>
    refine Z' (by kernel_rfl)
     [fun v _=>v= .agg #[.int .u32 o, .int .u64 c, .int .i64 a, .int .i64 b, .int .i64 d],fun v _=>v= .pointer (some ⟨z,0,none⟩),fun v _=>v= .agg #[.int .u32 o, .int .u64 c],fun v _=>v= .bool true,fun v _=>v= .bool true,
      fun v _=>v= .agg #[.int .u32 o, .int .u64 c, .int .i64 a, .int .i64 b, .int .i64 d],fun v _=>v= .agg (bv T).toArray,fun v _=>v= .agg (bv S).toArray,fun v _=>v= .bool (decide (T=S)),fun v _=>v= .bool (decide (T=S)),fun _ F=>F.heap[w.heap.size+1]? =some (.cells #[.int .u32 o, .int .u64 c, .int .i64 a, .int .i64 b, .int .i64 d] 199 (0,0)),fun v _=>v= .bool (decide (T=S))]
     [[(4,none)],[(4,none)],[(32,some 1)],[(33,some 2)],[(34,some 3)],[(4,none),(35,some 4)],[(36,some 5),(35,some 4)],[(1,none),(35,some 4)],[(37,some 6),(38,some 7),(35,some 4)],[(35,some 4),(39,some 8)],[(2,none),(31,some 0)],[(40,some 9)]] [some 31,some 32,some 33,some 34,some 35,some 36,some 37,some 38,some 39,some 40,none,some 3] [false,false,false,true,false,false,false,false,false,false,false,false,false,false,false,false,false,false,false,false,false,false,false,false,false,false,false,false,false,false,false,true,true,true,true,true,true,true,true,true,true]
     [(10,fun k=>k=w.heap.size+1)]
     (by kernel_rfl) (by kernel_rfl) (by kernel_rfl) (by kernel_rfl) (by kernel_rfl) ?_ ?_ ?_ ?_
    ·repeat' (first|exact O' _|exact X'|exact bh' _ _|exact trivial|apply And.intro)
    ·repeat' (first|exact trivial|exact .inl rfl|exact .inr (.inr (an' _ _))|exact .inr (.inr (fun _ _ _ _ _=>trivial))|apply And.intro)
    ·refine⟨?_,?_,?_,?_,?_,?_,?_,?_,?_,?_,?_,?_,trivial⟩;all_goals
      intro a' F r G;have z0:=r.blk (i' aB) (ae' (by intro q I;simp at I;subst I;intro (e:w.heap.size=w.heap.size+1);omega));have z4:=r.blk (i' bk) (ae' (by intro q I;simp at I;subst I;intro (e:z=w.heap.size+1);omega));have bu:F.cell? ⟨z,0,none⟩=some (.int .u32 o):=t' (i:=0) z4;have bw:F.cell? ⟨z,1,none⟩=some (.int .u64 c):=t' (i:=1) z4;have bz:F.cell? ⟨z,2,none⟩=some (.int .i64 a):=t' (i:=2) z4;have bA:F.cell? ⟨z,3,none⟩=some (.int .i64 b):=t' (i:=3) z4;have bB:F.cell? ⟨z,4,none⟩=some (.int .i64 d):=t' (i:=4) z4;have bl:=y' z0;clear z0 z4;simp only[M',List.getD_cons_zero,List.getD_cons_succ,Array.getD_eq_getD_getElem?]at G;try simp at G
     iterate 3
      ·clear r;go_simp;exact⟨_,rfl,Far.refl _ _,rfl⟩
     ·clear r;go_simp;refine(i' (aq F)).mono ?_;rintro Q bm ⟨rfl,D⟩;exact⟨_,rfl,C' D,by rw[aM];rfl⟩
     ·clear r;go_simp;exact⟨_,rfl,Far.refl _ _,rfl⟩
     ·clear r;have aN:a'.tmps[35]? =some (.bool true):=eL' (by first|exact G|exact G.2|exact G.2.2);go_simp;exact⟨_,rfl,Far.refl _ _,rfl⟩
     ·clear r;have aN:a'.tmps[35]? =some (.bool true):=eL' (by first|exact G|exact G.2|exact G.2.2);go_simp;refine(i' (ab F)).mono ?_;rintro Q bm ⟨rfl,D⟩;exact⟨_,rfl,C' D,rfl⟩
     ·clear r;have aN:a'.tmps[35]? =some (.bool true):=eL' (by first|exact G|exact G.2|exact G.2.2);rw[if_pos (by go_simp)];exact cw' (.tmp 1) rfl w.heap.size (by simp[Act.eval,G]) 214 S aF (i' bl) ⟨_,rfl,Far.refl _ _,rfl⟩
     ·clear r;have aN:a'.tmps[35]? =some (.bool true):=eL' (by first|exact G|exact G.2|exact G.2.2);go_simp;exact⟨_,rfl,Far.refl _ _,rfl⟩
     ·clear r;go_simp;exact⟨_,rfl,Far.refl _ _,rfl⟩
     ·have aJ:=r.blk (i' aC) (by rintro⟨q,I,g1,g2,bC⟩;simp at I;subst I;exact g1 rfl);clear r;rw[if_pos (by rfl)];refine wp_store_row 199 (.tmp 2) (.tmp 31) rfl (w.heap.size+1) #[.int .u32 o, .int .u64 c, .int .i64 a, .int .i64 b, .int .i64 d] (by simp[Act.eval,G]) (by simp[Act.eval,G]) 199 _ aJ (by rw[gr'];rfl) (by simp) (by rw[Array.all_eq_true_iff_forall_mem];intro u hu;simp at hu;rcases hu with rfl|rfl|rfl|rfl|rfl <;> rfl) ?_;exact⟨_,rfl,aj' (.head _) (aU' _ _ _),setRow_heap _ _ _ _ _ _ aJ⟩
     ·clear r;go_simp;exact⟨_,rfl,Far.refl _ _,rfl⟩
    ·intro f F hF aE;have U:=aE.2.2.2.2.2.2.2.2.2.2.1;have aS:=aE.2.2.2.2.2.2.2.2.2.2.2.1;have V:F.cell? ⟨w.heap.size+1,0,none⟩=some (.int .u32 o):=t' (i:=0) U;have X:F.cell? ⟨w.heap.size+1,1,none⟩=some (.int .u64 c):=t' (i:=1) U;have Y:F.cell? ⟨w.heap.size+1,2,none⟩=some (.int .i64 a):=t' (i:=2) U;have Z:F.cell? ⟨w.heap.size+1,3,none⟩=some (.int .i64 b):=t' (i:=3) U;have aa:F.cell? ⟨w.heap.size+1,4,none⟩=some (.int .i64 d):=t' (i:=4) U;have aT:=y' ((i' av).trans (hF.below (i' av).size (fun k bf h=>by obtain⟨q,I,h⟩:=h;simp at I;subst I;have h:k=w.heap.size+1:=h;omega)));clear aE hF U;simp only[Y',aS];generalize f 31=bD;generalize f 32=bE;generalize f 33=bF;generalize f 34=bG;generalize f 35=bH;generalize f 36=bI;generalize f 37=bJ;generalize f 38=bK;generalize f 39=bL;generalize f 40=bM;go_simp;go_wp2;refine bodyPost_ret (v:= .tuple #[.agg #[.int .u32 o, .int .u64 c, .int .i64 a, .int .i64 b, .int .i64 d], .bool (decide (T=S))]) (by simp[results,Tryz.results159,go_sem,V,X,Y,Z,aa]) rfl ⟨⟨o,c,a,b,d⟩,?_,fun _=>rfl,i' aT⟩;have:ok=decide (T=S):=by rw[i' ac,aM,decide_eq_true (i' M).1,decide_eq_true (i' M).2.1,decide_eq_true (i' M).2.2];rfl
     rw[this];rfl
   |false=>
    refine Z' (by kernel_rfl)
     [fun v _=>v= .agg #[.int .u32 o, .int .u64 c, .int .i64 a, .int .i64 b, .int .i64 d],fun v _=>v= .pointer (some ⟨z,0,none⟩),fun v _=>v= .agg #[.int .u32 o, .int .u64 c],fun v _=>v= .bool false,fun v _=>v= .bool false,
      fun _ _=>True,fun _ _=>True,fun _ _=>True,fun _ _=>True,fun v _=>v= .bool false,fun _ F=>F.heap[w.heap.size+1]? =some (.cells #[.int .u32 o, .int .u64 c, .int .i64 a, .int .i64 b, .int .i64 d] 199 (0,0)),fun v _=>v= .bool (false)]
     [[(4,none)],[(4,none)],[(32,some 1)],[(33,some 2)],[(34,some 3)],[(4,none),(35,some 4)],[(36,some 5),(35,some 4)],[(1,none),(35,some 4)],[(37,some 6),(38,some 7),(35,some 4)],[(35,some 4),(39,some 8)],[(2,none),(31,some 0)],[(40,some 9)]] [some 31,some 32,some 33,some 34,some 35,some 36,some 37,some 38,some 39,some 40,none,some 3] [false,false,false,true,false,false,false,false,false,false,false,false,false,false,false,false,false,false,false,false,false,false,false,false,false,false,false,false,false,false,false,true,true,true,true,true,true,true,true,true,true]
     [(10,fun k=>k=w.heap.size+1)]
     (by kernel_rfl) (by kernel_rfl) (by kernel_rfl) (by kernel_rfl) (by kernel_rfl) ?_ ?_ ?_ ?_
    ·repeat' (first|exact O' _|exact X'|exact bh' _ _|exact trivial|apply And.intro)
    ·repeat' (first|exact trivial|exact .inl rfl|exact .inr (.inr (an' _ _))|exact .inr (.inr (fun _ _ _ _ _=>trivial))|apply And.intro)
    ·refine⟨?_,?_,?_,?_,?_,?_,?_,?_,?_,?_,?_,?_,trivial⟩;all_goals
      intro a' F r G;have z0:=r.blk (i' aB) (ae' (by intro q I;simp at I;subst I;intro (e:w.heap.size=w.heap.size+1);omega));have z4:=r.blk (i' bk) (ae' (by intro q I;simp at I;subst I;intro (e:z=w.heap.size+1);omega));have bu:F.cell? ⟨z,0,none⟩=some (.int .u32 o):=t' (i:=0) z4;have bw:F.cell? ⟨z,1,none⟩=some (.int .u64 c):=t' (i:=1) z4;have bz:F.cell? ⟨z,2,none⟩=some (.int .i64 a):=t' (i:=2) z4;have bA:F.cell? ⟨z,3,none⟩=some (.int .i64 b):=t' (i:=3) z4;have bB:F.cell? ⟨z,4,none⟩=some (.int .i64 d):=t' (i:=4) z4;have bl:=y' z0;clear z0 z4;simp only[M',List.getD_cons_zero,List.getD_cons_succ,Array.getD_eq_getD_getElem?]at G;try simp at G
     iterate 3
      ·clear r;go_simp;exact⟨_,rfl,Far.refl _ _,rfl⟩
     ·clear r;go_simp;refine(i' (aq F)).mono ?_;rintro Q bm ⟨rfl,D⟩;exact⟨_,rfl,C' D,by rw[aM];rfl⟩
     ·clear r;go_simp;exact⟨_,rfl,Far.refl _ _,rfl⟩
     iterate 4
      ·clear r;have aN:a'.tmps[35]? =some (.bool false):=eL' (by first|exact G|exact G.2|exact G.2.2);go_simp;try trivial
     ·clear r;go_simp;exact⟨_,rfl,Far.refl _ _,rfl⟩
     ·have aJ:=r.blk (i' aC) (by rintro⟨q,I,g1,g2,bC⟩;simp at I;subst I;exact g1 rfl);clear r;rw[if_pos (by rfl)];refine wp_store_row 199 (.tmp 2) (.tmp 31) rfl (w.heap.size+1) #[.int .u32 o, .int .u64 c, .int .i64 a, .int .i64 b, .int .i64 d] (by simp[Act.eval,G]) (by simp[Act.eval,G]) 199 _ aJ (by rw[gr'];rfl) (by simp) (by rw[Array.all_eq_true_iff_forall_mem];intro u hu;simp at hu;rcases hu with rfl|rfl|rfl|rfl|rfl <;> rfl) ?_;exact⟨_,rfl,aj' (.head _) (aU' _ _ _),setRow_heap _ _ _ _ _ _ aJ⟩
     ·clear r;go_simp;exact⟨_,rfl,Far.refl _ _,rfl⟩
    ·intro f F hF aE;have U:=aE.2.2.2.2.2.2.2.2.2.2.1;have aS:=aE.2.2.2.2.2.2.2.2.2.2.2.1;have V:F.cell? ⟨w.heap.size+1,0,none⟩=some (.int .u32 o):=t' (i:=0) U;have X:F.cell? ⟨w.heap.size+1,1,none⟩=some (.int .u64 c):=t' (i:=1) U;have Y:F.cell? ⟨w.heap.size+1,2,none⟩=some (.int .i64 a):=t' (i:=2) U;have Z:F.cell? ⟨w.heap.size+1,3,none⟩=some (.int .i64 b):=t' (i:=3) U;have aa:F.cell? ⟨w.heap.size+1,4,none⟩=some (.int .i64 d):=t' (i:=4) U;have aT:=y' ((i' av).trans (hF.below (i' av).size (fun k bf h=>by obtain⟨q,I,h⟩:=h;simp at I;subst I;have h:k=w.heap.size+1:=h;omega)));clear aE hF U;simp only[Y',aS];generalize f 31=bD;generalize f 32=bE;generalize f 33=bF;generalize f 34=bG;generalize f 35=bH;generalize f 36=bI;generalize f 37=bJ;generalize f 38=bK;generalize f 39=bL;generalize f 40=bM;go_simp;go_wp2;refine bodyPost_ret (v:= .tuple #[.agg #[.int .u32 o, .int .u64 c, .int .i64 a, .int .i64 b, .int .i64 d], .bool (false)]) (by simp[results,Tryz.results159,go_sem,V,X,Y,Z,aa]) rfl ⟨⟨o,c,a,b,d⟩,?_,fun _=>rfl,i' aT⟩;have:ok=false:=by rw[i' ac,aM,decide_eq_true (i' M).1,decide_eq_true (i' M).2.1,decide_eq_true (i' M).2.2];rfl
     rw[this];rfl
end Go.Proofs.YtamafdcnbcoegabGreat
