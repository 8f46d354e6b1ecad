/-
  Part 13 of a proof: LB3, L37, LB4, D18, D19.
-/
import Derived.Test.YtamafdcnbcoegaaGreatSf12
set_option maxRecDepth 100000
set_option maxHeartbeats 40000000
namespace Go.Proofs.YtamafdcnbcoegaaGreat
open Go.RowKit
def eS' (a:Mod.Ag) (l:List UInt8):Nat:=
 if Wire.reads l=true then a.says (Wire.kindOf l) (Wire.epochOf l) (Wire.streamOf l).toNat (Wire.seqOf l).toNat (Wire.bodyOf l) 0+a.says (Wire.kindOf l) (Wire.epochOf l) (Wire.streamOf l).toNat (Wire.seqOf l).toNat (Wire.bodyOf l) 1+a.says (Wire.kindOf l) (Wire.epochOf l) (Wire.streamOf l).toNat (Wire.seqOf l).toNat (Wire.bodyOf l) 2 else 0
theorem pn' {a:Mod.Ag} {l:List UInt8} (f:Wire.reads l=true) {k:Int} {e s q:Nat} {b:ByteArray} (h1:Wire.kindOf l=k) (h2:Wire.epochOf l=e) (h3:Wire.streamOf l=s) (h4:Wire.seqOf l=q) (h5:Wire.bodyOf l=b):
  eS' a l=a.says k e s q b 0+a.says k e s q b 1+a.says k e s q b 2:=by
 unfold eS';rw[if_pos f,h1,h2,h3,h4,h5];rfl
theorem jR' {a:Mod.Ag} {l:List UInt8} (f:Wire.reads l=false):eS' a l=0:=by
 unfold eS';rw[if_neg (by rw[f];decide)]
section
variable {w:World} {p:Nat} {g0:Nat->Nat} {free:List Nat} {sh:Nat->List (Nat×Value)} {st:Mod.Stv} {c:Av} {a a2:Mod.Ag} {pl:Nat->List Nat} {op:Nat×Nat}
theorem lU' (f:aA' w p g0 a.ticks a.welcome a.fenced free sh st c) (hs:cn' op st a free pl) (F:aO' a st.opening g0 free sh pl) (bs:Value) (l:List UInt8) (G:Y' w bs l) (H:Wire.reads l=false):
  Calls Tryz.prog 57 #[y' p,bs] w fun z I=>z= .returned (.int .i64 1)/\bE' op w I p a c:=by
 have c0:w.cell? ⟨p,0,none⟩=some (y' c.s):=by rw[m' f.ks.blk,f.ks.a0]
 have D:=ab' f.stt;rw[hs.dead]at D;have J:=t' D;have r:=cr' bs l w G;rw[H]at r;simp only[Bool.false_eq_true,if_false,cD']at r;have M:=t' r;have O:=t' (bM' f hs F);clear f D r;unfold y' at *;go_enter Tryz.func57,Tryz.ntmps57;go_wp2_with (first|(go_at_call 86;refine(i' J).mono ?_;rintro z y ⟨rfl,rfl⟩)|(go_at_call 54;refine(i' M).mono ?_;rintro z y ⟨rfl,u⟩;replace u:=t' u));go_ret;exact⟨rfl,(i' O).below ((i' u).alloc (i' u).size _)⟩
theorem hQ' (D:aA' w p g0 a.ticks a.welcome a.fenced free sh st c) (hs:cn' op st a free pl) (Y:Int) (J:World->World->Prop) (Z:∀y f:World,Below w.heap.size w y->J y f->J w f) (bs:Value) (k e s q:Int) (b:ByteArray) (aC:k=2)
  (aa:∀y,Below w.heap.size w y->Calls Tryz.prog 54 #[bs] y fun F f=>F= .returned (.tuple #[.agg #[.int .i64 k, .int .i64 e, .int .i64 s, .int .i64 q, .string b], .int .i64 0])/\Below y.heap.size y f)
  (ab:∀y,Below w.heap.size w y->Calls Tryz.prog 104 #[y' p, .agg #[.int .i64 2, .int .i64 e, .int .i64 s, .int .i64 q, .string b]] y fun F f=>F= .returned (.int .i64 Y)/\J y f):
  Calls Tryz.prog 57 #[y' p,bs] w fun F f=>F= .returned (.int .i64 Y)/\J w f:=by
 have c0:w.cell? ⟨p,0,none⟩=some (y' c.s):=by rw[m' D.ks.blk,D.ks.a0]
 have M:=ab' D.stt;rw[hs.dead]at M;have ac:=t' M;have ad:=t' (aa w (Below.refl _ _));subst aC;have aD:=fun y aE=>t' (ab y aE);clear ab;obtain⟨u,cap,ah,aP,aQ,ai⟩:=D.rl.shape;obtain⟨g,o,rfl,G⟩:=ai (by omega);have r0:w.cell? ⟨g,o,none⟩=some (.int .i64 2):=by have:=G 0 (by omega);simpa[aD']using this
 have aj:w.cell? ⟨g,o+1,none⟩=some (.func (.func 104) #[y' p] #[]):=by have:=G 1 (by omega);simpa[aD']using this
 have ak:w.cell? ⟨g,o+2,none⟩=some (.int .i64 4):=by have:=G 2 (by omega);simpa[aD']using this
 have ao:w.cell? ⟨g,o+2+1,none⟩=some (.func (.func 105) #[y' p] #[]):=by have:=G 3 (by omega);simpa[aD']using this
 have ap:w.cell? ⟨g,o+4,none⟩=some (.int .i64 5):=by have:=G 4 (by omega);simpa[aD']using this
 have aq:w.cell? ⟨g,o+4+1,none⟩=some (.func (.func 106) #[y' p] #[]):=by have:=G 5 (by omega);simpa[aD']using this
 have au:w.cell? ⟨p,26,none⟩=some (.slice (some ⟨g,o,none⟩) 3 cap):=by rw[m' D.ks.blk,D.ks.ar,ah]
 have H:g < w.heap.size:=World.block_lt_of_cell? _ _ r0;have aF:=lt_of_block D.ks.blk;have aG:=t' Z;clear Z D M aa G ai ah;unfold y' at *;go_enter Tryz.func57,Tryz.ntmps57;go_upto_region 4 with (first|(go_at_call 86;refine(i' ac).mono ?_;rintro F y ⟨rfl,aH⟩;obtain rfl:w=y:=aH.symm)|(go_at_call 54;refine(i' ad).mono ?_;rintro F y ⟨rfl,r⟩));obtain⟨I,O⟩:∃I,I=y.heap.size:=⟨_,rfl⟩;have aR:w.heap.size<=I:=by have:=r.size;omega
 have av:=t' O;have Q:=t' r;rw[<-O];clear O r;refine C' (fun U=>U.heap[I]? =some (.cells #[.int .i64 2, .int .i64 e, .int .i64 s, .int .i64 q, .string b] 41 (0,0))/\Below w.heap.size w U) ?_ ?_
 ·rw[i' av];exact⟨heap_alloc_new _ _,(i' Q).alloc (i' Q).size _⟩
 clear av Q c0 ad ac;rintro U ⟨z,V⟩;have aI:=(V.cell (p:=⟨p,26,none⟩) aF).trans au;have ax:=t' z;have ay:=t' V;clear z V au;go_wp2;go_loopw[8,27] (fun _ i wr=>∃j:Nat,j<=0/\i= .int .i64 j/\wr.heap[I]? =some (.cells #[.int .i64 2, .int .i64 e, .int .i64 s, .int .i64 q, .string b] 41 (0,0))/\Below w.heap.size w wr) (fun _ i _=>4 - (intOf i).toNat)
 case atStart=>exact⟨0,by omega,rfl,i' ax,i' ay⟩
 case round=>
  obtain⟨j,hj,rfl,z,r⟩:=hrel;clear ax ay aI;have s0:=(r.cell (p:=⟨g,o,none⟩) H).trans r0;have s1:=(r.cell (p:=⟨g,o+1,none⟩) H).trans aj;have aS:=(r.cell (p:=⟨g,o+2,none⟩) H).trans ak;have aT:=(r.cell (p:=⟨g,o+2+1,none⟩) H).trans ao;have aU:=(r.cell (p:=⟨g,o+4,none⟩) H).trans ap;have aV:=(r.cell (p:=⟨g,o+4+1,none⟩) H).trans aq;have aJ:=m' (i:=0) z;have aK:=m' (i:=1) z;have aL:=m' (i:=2) z;have aM:=m' (i:=3) z;have aN:=m' (i:=4) z;simp at aJ aK aL aM aN;have aO:=lt_of_block z;have aW:=t' z;have az:=t' r;have aA:∀X,(wr.alloc X).heap[I]? =some (.cells #[.int .i64 2, .int .i64 e, .int .i64 s, .int .i64 q, .string b] 41 (0,0))/\Below w.heap.size w (wr.alloc X):=fun X=>⟨(hao _ _ aO).trans z,r.alloc r.size _⟩;have aB:=t' aA;clear z r aA r0 aj ak ao ap aq;have aX:∀ (u:Addr) (m:Mode) (f:World),(store u (.func (.func 104) #[.pointer (some ⟨p,0,none⟩)] #[]) m).run Tryz.prog f=stored Tryz.prog f u (.func (.func 104) #[.pointer (some ⟨p,0,none⟩)] #[]) m:=fun u m f=>run_store _ _ _ _ _ rfl;have aY:∀ (u:Addr) (m:Mode) (f:World),(store u (.func (.func 105) #[.pointer (some ⟨p,0,none⟩)] #[]) m).run Tryz.prog f=stored Tryz.prog f u (.func (.func 105) #[.pointer (some ⟨p,0,none⟩)] #[]) m:=fun u m f=>run_store _ _ _ _ _ rfl;have aZ:∀ (u:Addr) (m:Mode) (f:World),(store u (.func (.func 106) #[.pointer (some ⟨p,0,none⟩)] #[]) m).run Tryz.prog f=stored Tryz.prog f u (.func (.func 106) #[.pointer (some ⟨p,0,none⟩)] #[]) m:=fun u m f=>run_store _ _ _ _ _ rfl;obtain rfl:j=0:=by omega
  focus
   go_wp2_with (go_at_call 104;refine(i' (aD _ (by first|exact((i' aB) _).2|exact(i' az)))).mono ?_;rintro F f ⟨rfl,k1⟩;replace k1:=t' k1)
   go_ret;exact⟨rfl,i' aG _ _ (by first|exact((i' aB) _).2|exact(i' az)) (i' k1)⟩
theorem hR' (D:aA' w p g0 a.ticks a.welcome a.fenced free sh st c) (hs:cn' op st a free pl) (Z:Int) (J:World->World->Prop) (aa:∀y f:World,Below w.heap.size w y->J y f->J w f) (bs:Value) (k e s q:Int) (b:ByteArray) (aC:k=4)
  (ab:∀y,Below w.heap.size w y->Calls Tryz.prog 54 #[bs] y fun F f=>F= .returned (.tuple #[.agg #[.int .i64 k, .int .i64 e, .int .i64 s, .int .i64 q, .string b], .int .i64 0])/\Below y.heap.size y f)
  (ac:∀y,Below w.heap.size w y->Calls Tryz.prog 105 #[y' p, .agg #[.int .i64 4, .int .i64 e, .int .i64 s, .int .i64 q, .string b]] y fun F f=>F= .returned (.int .i64 Z)/\J y f):
  Calls Tryz.prog 57 #[y' p,bs] w fun F f=>F= .returned (.int .i64 Z)/\J w f:=by
 have c0:w.cell? ⟨p,0,none⟩=some (y' c.s):=by rw[m' D.ks.blk,D.ks.a0]
 have M:=ab' D.stt;rw[hs.dead]at M;have ad:=t' M;have ah:=t' (ab w (Below.refl _ _));subst aC;have aD:=fun y aE=>t' (ac y aE);clear ac;obtain⟨u,cap,ai,aP,aQ,aj⟩:=D.rl.shape;obtain⟨g,o,rfl,G⟩:=aj (by omega);have r0:w.cell? ⟨g,o,none⟩=some (.int .i64 2):=by have:=G 0 (by omega);simpa[aD']using this
 have ak:w.cell? ⟨g,o+1,none⟩=some (.func (.func 104) #[y' p] #[]):=by have:=G 1 (by omega);simpa[aD']using this
 have ao:w.cell? ⟨g,o+2,none⟩=some (.int .i64 4):=by have:=G 2 (by omega);simpa[aD']using this
 have ap:w.cell? ⟨g,o+2+1,none⟩=some (.func (.func 105) #[y' p] #[]):=by have:=G 3 (by omega);simpa[aD']using this
 have aq:w.cell? ⟨g,o+4,none⟩=some (.int .i64 5):=by have:=G 4 (by omega);simpa[aD']using this
 have au:w.cell? ⟨g,o+4+1,none⟩=some (.func (.func 106) #[y' p] #[]):=by have:=G 5 (by omega);simpa[aD']using this
 have av:w.cell? ⟨p,26,none⟩=some (.slice (some ⟨g,o,none⟩) 3 cap):=by rw[m' D.ks.blk,D.ks.ar,ai]
 have H:g < w.heap.size:=World.block_lt_of_cell? _ _ r0;have aF:=lt_of_block D.ks.blk;have aG:=t' aa;clear aa D M ab G aj ai;unfold y' at *;go_enter Tryz.func57,Tryz.ntmps57;go_upto_region 4 with (first|(go_at_call 86;refine(i' ad).mono ?_;rintro F y ⟨rfl,aH⟩;obtain rfl:w=y:=aH.symm)|(go_at_call 54;refine(i' ah).mono ?_;rintro F y ⟨rfl,r⟩));obtain⟨I,O⟩:∃I,I=y.heap.size:=⟨_,rfl⟩;have aR:w.heap.size<=I:=by have:=r.size;omega
 have ax:=t' O;have Q:=t' r;rw[<-O];clear O r;refine C' (fun U=>U.heap[I]? =some (.cells #[.int .i64 4, .int .i64 e, .int .i64 s, .int .i64 q, .string b] 41 (0,0))/\Below w.heap.size w U) ?_ ?_
 ·rw[i' ax];exact⟨heap_alloc_new _ _,(i' Q).alloc (i' Q).size _⟩
 clear ax Q c0 ah ad;rintro U ⟨z,V⟩;have aI:=(V.cell (p:=⟨p,26,none⟩) aF).trans av;have ay:=t' z;have az:=t' V;clear z V av;go_wp2;go_loopw[8,27] (fun _ i wr=>∃j:Nat,j<=1/\i= .int .i64 j/\wr.heap[I]? =some (.cells #[.int .i64 4, .int .i64 e, .int .i64 s, .int .i64 q, .string b] 41 (0,0))/\Below w.heap.size w wr) (fun _ i _=>4 - (intOf i).toNat)
 case atStart=>exact⟨0,by omega,rfl,i' ay,i' az⟩
 case round=>
  obtain⟨j,hj,rfl,z,r⟩:=hrel;clear ay az aI;have s0:=(r.cell (p:=⟨g,o,none⟩) H).trans r0;have s1:=(r.cell (p:=⟨g,o+1,none⟩) H).trans ak;have aS:=(r.cell (p:=⟨g,o+2,none⟩) H).trans ao;have aT:=(r.cell (p:=⟨g,o+2+1,none⟩) H).trans ap;have aU:=(r.cell (p:=⟨g,o+4,none⟩) H).trans aq;have aV:=(r.cell (p:=⟨g,o+4+1,none⟩) H).trans au;have aJ:=m' (i:=0) z;have aK:=m' (i:=1) z;have aL:=m' (i:=2) z;have aM:=m' (i:=3) z;have aN:=m' (i:=4) z;simp at aJ aK aL aM aN;have aO:=lt_of_block z;have aW:=t' z;have aA:=t' r;have aB:∀X,(wr.alloc X).heap[I]? =some (.cells #[.int .i64 4, .int .i64 e, .int .i64 s, .int .i64 q, .string b] 41 (0,0))/\Below w.heap.size w (wr.alloc X):=fun X=>⟨(hao _ _ aO).trans z,r.alloc r.size _⟩;have Y:=t' aB;clear z r aB r0 ak ao ap aq au;have aX:∀ (u:Addr) (m:Mode) (f:World),(store u (.func (.func 104) #[.pointer (some ⟨p,0,none⟩)] #[]) m).run Tryz.prog f=stored Tryz.prog f u (.func (.func 104) #[.pointer (some ⟨p,0,none⟩)] #[]) m:=fun u m f=>run_store _ _ _ _ _ rfl;have aY:∀ (u:Addr) (m:Mode) (f:World),(store u (.func (.func 105) #[.pointer (some ⟨p,0,none⟩)] #[]) m).run Tryz.prog f=stored Tryz.prog f u (.func (.func 105) #[.pointer (some ⟨p,0,none⟩)] #[]) m:=fun u m f=>run_store _ _ _ _ _ rfl;have aZ:∀ (u:Addr) (m:Mode) (f:World),(store u (.func (.func 106) #[.pointer (some ⟨p,0,none⟩)] #[]) m).run Tryz.prog f=stored Tryz.prog f u (.func (.func 106) #[.pointer (some ⟨p,0,none⟩)] #[]) m:=fun u m f=>run_store _ _ _ _ _ rfl;rcases(show j=0\/j=1 by omega)with rfl|rfl;focus
   go_wp2;exact⟨⟨1,by omega,by go_num,(i' Y) _⟩,by simp[intOf]⟩
  focus
   go_wp2_with (go_at_call 105;refine(i' (aD _ (by first|exact((i' Y) _).2|exact(i' aA)))).mono ?_;rintro F f ⟨rfl,k1⟩;replace k1:=t' k1)
   go_ret;exact⟨rfl,i' aG _ _ (by first|exact((i' Y) _).2|exact(i' aA)) (i' k1)⟩
theorem nA' (D:aA' w p g0 a.ticks a.welcome a.fenced free sh st c) (hs:cn' op st a free pl) (Z:Int) (J:World->World->Prop) (aa:∀y f:World,Below w.heap.size w y->J y f->J w f) (bs:Value) (k e s q:Int) (b:ByteArray) (aC:k=5)
  (ab:∀y,Below w.heap.size w y->Calls Tryz.prog 54 #[bs] y fun F f=>F= .returned (.tuple #[.agg #[.int .i64 k, .int .i64 e, .int .i64 s, .int .i64 q, .string b], .int .i64 0])/\Below y.heap.size y f)
  (ac:∀y,Below w.heap.size w y->Calls Tryz.prog 106 #[y' p, .agg #[.int .i64 5, .int .i64 e, .int .i64 s, .int .i64 q, .string b]] y fun F f=>F= .returned (.int .i64 Z)/\J y f):
  Calls Tryz.prog 57 #[y' p,bs] w fun F f=>F= .returned (.int .i64 Z)/\J w f:=by
 have c0:w.cell? ⟨p,0,none⟩=some (y' c.s):=by rw[m' D.ks.blk,D.ks.a0]
 have O:=ab' D.stt;rw[hs.dead]at O;have ad:=t' O;have ah:=t' (ab w (Below.refl _ _));subst aC;have aD:=fun y aE=>t' (ac y aE);clear ac;obtain⟨u,cap,ai,aP,aQ,aj⟩:=D.rl.shape;obtain⟨g,o,rfl,G⟩:=aj (by omega);have r0:w.cell? ⟨g,o,none⟩=some (.int .i64 2):=by have:=G 0 (by omega);simpa[aD']using this
 have ak:w.cell? ⟨g,o+1,none⟩=some (.func (.func 104) #[y' p] #[]):=by have:=G 1 (by omega);simpa[aD']using this
 have ao:w.cell? ⟨g,o+2,none⟩=some (.int .i64 4):=by have:=G 2 (by omega);simpa[aD']using this
 have ap:w.cell? ⟨g,o+2+1,none⟩=some (.func (.func 105) #[y' p] #[]):=by have:=G 3 (by omega);simpa[aD']using this
 have aq:w.cell? ⟨g,o+4,none⟩=some (.int .i64 5):=by have:=G 4 (by omega);simpa[aD']using this
 have au:w.cell? ⟨g,o+4+1,none⟩=some (.func (.func 106) #[y' p] #[]):=by have:=G 5 (by omega);simpa[aD']using this
 have av:w.cell? ⟨p,26,none⟩=some (.slice (some ⟨g,o,none⟩) 3 cap):=by rw[m' D.ks.blk,D.ks.ar,ai]
 have H:g < w.heap.size:=World.block_lt_of_cell? _ _ r0;have aF:=lt_of_block D.ks.blk;have aG:=t' aa;clear aa D O ab G aj ai;unfold y' at *;go_enter Tryz.func57,Tryz.ntmps57;go_upto_region 4 with (first|(go_at_call 86;refine(i' ad).mono ?_;rintro F y ⟨rfl,aH⟩;obtain rfl:w=y:=aH.symm)|(go_at_call 54;refine(i' ah).mono ?_;rintro F y ⟨rfl,r⟩));obtain⟨I,Q⟩:∃I,I=y.heap.size:=⟨_,rfl⟩;have aR:w.heap.size<=I:=by have:=r.size;omega
 have ax:=t' Q;have U:=t' r;rw[<-Q];clear Q r;refine C' (fun V=>V.heap[I]? =some (.cells #[.int .i64 5, .int .i64 e, .int .i64 s, .int .i64 q, .string b] 41 (0,0))/\Below w.heap.size w V) ?_ ?_
 ·rw[i' ax];exact⟨heap_alloc_new _ _,(i' U).alloc (i' U).size _⟩
 clear ax U c0 ah ad;rintro V ⟨z,X⟩;have aI:=(X.cell (p:=⟨p,26,none⟩) aF).trans av;have ay:=t' z;have az:=t' X;clear z X av;go_wp2;go_loopw[8,27] (fun _ i wr=>∃j:Nat,j<=2/\i= .int .i64 j/\wr.heap[I]? =some (.cells #[.int .i64 5, .int .i64 e, .int .i64 s, .int .i64 q, .string b] 41 (0,0))/\Below w.heap.size w wr) (fun _ i _=>4 - (intOf i).toNat)
 case atStart=>exact⟨0,by omega,rfl,i' ay,i' az⟩
 case round=>
  obtain⟨j,hj,rfl,z,r⟩:=hrel;clear ay az aI;have s0:=(r.cell (p:=⟨g,o,none⟩) H).trans r0;have s1:=(r.cell (p:=⟨g,o+1,none⟩) H).trans ak;have aS:=(r.cell (p:=⟨g,o+2,none⟩) H).trans ao;have aT:=(r.cell (p:=⟨g,o+2+1,none⟩) H).trans ap;have aU:=(r.cell (p:=⟨g,o+4,none⟩) H).trans aq;have aV:=(r.cell (p:=⟨g,o+4+1,none⟩) H).trans au;have aJ:=m' (i:=0) z;have aK:=m' (i:=1) z;have aL:=m' (i:=2) z;have aM:=m' (i:=3) z;have aN:=m' (i:=4) z;simp at aJ aK aL aM aN;have aO:=lt_of_block z;have aW:=t' z;have aA:=t' r;have aB:∀Y,(wr.alloc Y).heap[I]? =some (.cells #[.int .i64 5, .int .i64 e, .int .i64 s, .int .i64 q, .string b] 41 (0,0))/\Below w.heap.size w (wr.alloc Y):=fun Y=>⟨(hao _ _ aO).trans z,r.alloc r.size _⟩;have M:=t' aB;clear z r aB r0 ak ao ap aq au;have aX:∀ (u:Addr) (m:Mode) (f:World),(store u (.func (.func 104) #[.pointer (some ⟨p,0,none⟩)] #[]) m).run Tryz.prog f=stored Tryz.prog f u (.func (.func 104) #[.pointer (some ⟨p,0,none⟩)] #[]) m:=fun u m f=>run_store _ _ _ _ _ rfl;have aY:∀ (u:Addr) (m:Mode) (f:World),(store u (.func (.func 105) #[.pointer (some ⟨p,0,none⟩)] #[]) m).run Tryz.prog f=stored Tryz.prog f u (.func (.func 105) #[.pointer (some ⟨p,0,none⟩)] #[]) m:=fun u m f=>run_store _ _ _ _ _ rfl;have aZ:∀ (u:Addr) (m:Mode) (f:World),(store u (.func (.func 106) #[.pointer (some ⟨p,0,none⟩)] #[]) m).run Tryz.prog f=stored Tryz.prog f u (.func (.func 106) #[.pointer (some ⟨p,0,none⟩)] #[]) m:=fun u m f=>run_store _ _ _ _ _ rfl;rcases(show j=0\/j=1\/j=2 by omega)with rfl|rfl|rfl;focus
   go_wp2;exact⟨⟨1,by omega,by go_num,(i' M) _⟩,by simp[intOf]⟩
  focus
   go_wp2;exact⟨⟨2,by omega,by go_num,(i' M) _⟩,by simp[intOf]⟩
  focus
   go_wp2_with (go_at_call 106;refine(i' (aD _ (by first|exact((i' M) _).2|exact(i' aA)))).mono ?_;rintro F f ⟨rfl,k1⟩;replace k1:=t' k1)
   go_ret;exact⟨rfl,i' aG _ _ (by first|exact((i' M) _).2|exact(i' aA)) (i' k1)⟩
theorem jF' (D:aA' w p g0 a.ticks a.welcome a.fenced free sh st c) (hs:cn' op st a free pl) (ax:aO' a st.opening g0 free sh pl) (bs:Value) (k e s q:Int) (b:ByteArray) (k2:k≠2) (k4:k≠4) (k5:k≠5)
  (Y:∀y,Below w.heap.size w y->Calls Tryz.prog 54 #[bs] y fun I f=>I= .returned (.tuple #[.agg #[.int .i64 k, .int .i64 e, .int .i64 s, .int .i64 q, .string b], .int .i64 0])/\Below y.heap.size y f):
  Calls Tryz.prog 57 #[y' p,bs] w fun I f=>I= .returned (.int .i64 0)/\bE' op w f p a c:=by
 have c0:w.cell? ⟨p,0,none⟩=some (y' c.s):=by rw[m' D.ks.blk,D.ks.a0]
 have J:=ab' D.stt;rw[hs.dead]at J;have Z:=t' J;have aa:=t' (Y w (Below.refl _ _));have aJ:((2:Int) ==k)=false:=by simp;omega
 have aK:((4:Int) ==k)=false:=by simp;omega
 have aL:((5:Int) ==k)=false:=by simp;omega
 obtain⟨u,cap,ab,aM,aN,ac⟩:=D.rl.shape;obtain⟨g,o,rfl,F⟩:=ac (by omega);have r0:w.cell? ⟨g,o,none⟩=some (.int .i64 2):=by have:=F 0 (by omega);simpa[aD']using this
 have ad:w.cell? ⟨g,o+1,none⟩=some (.func (.func 104) #[y' p] #[]):=by have:=F 1 (by omega);simpa[aD']using this
 have ah:w.cell? ⟨g,o+2,none⟩=some (.int .i64 4):=by have:=F 2 (by omega);simpa[aD']using this
 have ai:w.cell? ⟨g,o+2+1,none⟩=some (.func (.func 105) #[y' p] #[]):=by have:=F 3 (by omega);simpa[aD']using this
 have aj:w.cell? ⟨g,o+4,none⟩=some (.int .i64 5):=by have:=F 4 (by omega);simpa[aD']using this
 have ak:w.cell? ⟨g,o+4+1,none⟩=some (.func (.func 106) #[y' p] #[]):=by have:=F 5 (by omega);simpa[aD']using this
 have ao:w.cell? ⟨p,26,none⟩=some (.slice (some ⟨g,o,none⟩) 3 cap):=by rw[m' D.ks.blk,D.ks.ar,ab]
 have G:g < w.heap.size:=World.block_lt_of_cell? _ _ r0;have ay:=lt_of_block D.ks.blk;have az:=t' (bM' D hs ax);clear D J Y F ac ab;unfold y' at *;go_enter Tryz.func57,Tryz.ntmps57;go_upto_region 4 with (first|(go_at_call 86;refine(i' Z).mono ?_;rintro I y ⟨rfl,aA⟩;obtain rfl:w=y:=aA.symm)|(go_at_call 54;refine(i' aa).mono ?_;rintro I y ⟨rfl,r⟩));obtain⟨H,M⟩:∃H,H=y.heap.size:=⟨_,rfl⟩;have aO:w.heap.size<=H:=by have:=r.size;omega
 have ap:=t' M;have O:=t' r;rw[<-M];clear M r;refine C' (fun Q=>Q.heap[H]? =some (.cells #[.int .i64 k, .int .i64 e, .int .i64 s, .int .i64 q, .string b] 41 (0,0))/\Below w.heap.size w Q) ?_ ?_
 ·rw[i' ap];exact⟨heap_alloc_new _ _,(i' O).alloc (i' O).size _⟩
 clear ap O c0 aa Z;rintro Q ⟨z,U⟩;have aB:=(U.cell (p:=⟨p,26,none⟩) ay).trans ao;have aq:=t' z;have au:=t' U;clear z U ao;go_wp2;go_loopw[8,27] (fun _ i wr=>∃j:Nat,j<=3/\i= .int .i64 j/\wr.heap[H]? =some (.cells #[.int .i64 k, .int .i64 e, .int .i64 s, .int .i64 q, .string b] 41 (0,0))/\Below w.heap.size w wr) (fun _ i _=>4 - (intOf i).toNat)
 case atStart=>exact⟨0,by omega,rfl,i' aq,i' au⟩
 case round=>
  obtain⟨j,hj,rfl,z,r⟩:=hrel;clear aq au aB;have s0:=(r.cell (p:=⟨g,o,none⟩) G).trans r0;have s1:=(r.cell (p:=⟨g,o+1,none⟩) G).trans ad;have aP:=(r.cell (p:=⟨g,o+2,none⟩) G).trans ah;have aQ:=(r.cell (p:=⟨g,o+2+1,none⟩) G).trans ai;have aR:=(r.cell (p:=⟨g,o+4,none⟩) G).trans aj;have aS:=(r.cell (p:=⟨g,o+4+1,none⟩) G).trans ak;have aC:=m' (i:=0) z;have aD:=m' (i:=1) z;have aE:=m' (i:=2) z;have aF:=m' (i:=3) z;have aG:=m' (i:=4) z;simp at aC aD aE aF aG;have aH:=lt_of_block z;have aT:=t' z;have aI:=t' r;have av:∀V,(wr.alloc V).heap[H]? =some (.cells #[.int .i64 k, .int .i64 e, .int .i64 s, .int .i64 q, .string b] 41 (0,0))/\Below w.heap.size w (wr.alloc V):=fun V=>⟨(hao _ _ aH).trans z,r.alloc r.size _⟩;have X:=t' av;clear z r av r0 ad ah ai aj ak;have aU:∀ (u:Addr) (m:Mode) (f:World),(store u (.func (.func 104) #[.pointer (some ⟨p,0,none⟩)] #[]) m).run Tryz.prog f=stored Tryz.prog f u (.func (.func 104) #[.pointer (some ⟨p,0,none⟩)] #[]) m:=fun u m f=>run_store _ _ _ _ _ rfl;have aV:∀ (u:Addr) (m:Mode) (f:World),(store u (.func (.func 105) #[.pointer (some ⟨p,0,none⟩)] #[]) m).run Tryz.prog f=stored Tryz.prog f u (.func (.func 105) #[.pointer (some ⟨p,0,none⟩)] #[]) m:=fun u m f=>run_store _ _ _ _ _ rfl;have aW:∀ (u:Addr) (m:Mode) (f:World),(store u (.func (.func 106) #[.pointer (some ⟨p,0,none⟩)] #[]) m).run Tryz.prog f=stored Tryz.prog f u (.func (.func 106) #[.pointer (some ⟨p,0,none⟩)] #[]) m:=fun u m f=>run_store _ _ _ _ _ rfl;rcases(show j=0\/j=1\/j=2\/j=3 by omega)with rfl|rfl|rfl|rfl;focus
   go_wp2;exact⟨⟨1,by omega,by go_num,(i' X) _⟩,by simp[intOf]⟩
  focus
   go_wp2;exact⟨⟨2,by omega,by go_num,(i' X) _⟩,by simp[intOf]⟩
  focus
   go_wp2;exact⟨⟨3,by omega,by go_num,(i' X) _⟩,by simp[intOf]⟩
  focus
   go_wp2;go_ret;exact⟨rfl,(i' az).below (i' aI)⟩
end
section
variable {w:World} {p:Nat} {g0:Nat->Nat} {free:List Nat} {sh:Nat->List (Nat×Value)} {st:Mod.Stv} {c:Av} {a:Mod.Ag} {pl:Nat->List Nat} {op:Nat×Nat}
theorem mA' {a:Mod.Ag} {k e s q:Int} {b:ByteArray} (h:¬e=a.epoch):a.says k e s q b 0+a.says k e s q b 1+a.says k e s q b 2=0:=by
 have f:∀i,a.says k e s q b i=0:=fun i=>by unfold Mod.Ag.says;rw[if_pos h]
 rw[f,f,f]
theorem mB' {a:Mod.Ag} {e s q:Int} {b:ByteArray} (h:¬ (e=a.epoch/\a.welcome=true)):a.says 4 e s q b 0+a.says 4 e s q b 1+a.says 4 e s q b 2=0:=by
 have f:∀i,a.says 4 e s q b i=0:=fun i=>by
  unfold Mod.Ag.says;by_cases r:e=a.epoch
  ·rw[if_neg (by simpa using r),if_neg (by decide),if_neg (fun u=>h ⟨r,u.2.2⟩)]
  ·rw[if_pos r]
 rw[f,f,f]
theorem gJ' {a:Mod.Ag} {k e s q:Int} {b:ByteArray} (k2:k≠2) (k4:k≠4):a.says k e s q b 0+a.says k e s q b 1+a.says k e s q b 2=0:=by
 have f:∀i,a.says k e s q b i=0:=fun i=>by
  unfold Mod.Ag.says;by_cases r:e=a.epoch
  ·rw[if_neg (by simpa using r),if_neg k2,if_neg (fun h=>k4 h.1)]
  ·rw[if_pos r]
 rw[f,f,f]
theorem kP' (H:aA' w p g0 a.ticks a.welcome a.fenced free sh st c) (hs:cn' op st a free pl) (u:aO' a st.opening g0 free sh pl) (U:∀i,i < 3->(a.fl i).base+(a.fl i).kept.length<=1000000000) (bs:Value) (l:List UInt8) (V:Y' w bs l) (M:op.2≠1\/eS' a l=0):
  Calls Tryz.prog 57 #[y' p,bs] w fun I r=>I= .returned (.int .i64 (aI' a l).1)/\bE' (dT' op (eS' a l)) w r p (aI' a l).2 c:=by
 cases F:Wire.reads l
 ·rw[iG' F,jR' F,cQ'];exact lU' H hs u bs l V F
 ·have O:=hC' F;obtain⟨k,e,s,q,b,h1,h2,h3,h4,h5,g1,g2,X,Y⟩:=bH' F;rw[kE' F h1 h2 h3 h4 h5];rw[pn' F h1 h2 h3 h4 h5]at M ⊢;rw[h1,h2,h3,h4,h5]at O;have J:∀y,Below w.heap.size w y->Calls Tryz.prog 54 #[bs] y fun I r=>I= .returned (.tuple #[.agg #[.int .i64 k, .int .i64 e, .int .i64 s, .int .i64 q, .string b], .int .i64 0])/\Below y.heap.size y r:=fun y f=>by have:=cr' bs l y (V.below f);rw[F]at this;simp only[if_true,jV',h1,h2,h3,h4,h5]at this;exact this
  have G:=fun y (f:Below w.heap.size w y)=>H.below f;by_cases k2:k=2
  ·refine hQ' H hs 0 (fun y r=>bE' (dT' op (a.says k e s q b 0+a.says k e s q b 1+a.says k e s q b 2)) y r p (a.deliver k e s q b) c) (fun _ _ z h=>bE'.behind h z) bs k e s q b k2 J (fun y f=>?_);subst k2;by_cases D:e=a.epoch
   ·exact iL' (G y f) hs u e s q b M D (ox' O) U
   ·refine(kz' (G y f) u e s q b D).mono ?_;rintro I r ⟨rfl,z⟩;rw[show a.deliver 2 e s q b=a by unfold Mod.Ag.deliver;rw[if_neg (by omega),if_pos (by omega)]];rw[mA' (fun h=>D (by omega)),cQ'];exact⟨rfl,(bM' (G y f) hs u).below z⟩
  ·by_cases k4:k=4
   ·refine hR' H hs 0 (fun y r=>bE' (dT' op (a.says k e s q b 0+a.says k e s q b 1+a.says k e s q b 2)) y r p (a.deliver k e s q b) c) (fun _ _ z h=>bE'.behind h z) bs k e s q b k4 J (fun y f=>?_);subst k4;by_cases D:e=a.epoch/\a.welcome=true
    ·exact pm' (G y f) hs u e s q b M D.1 D.2 g2 (by have:=(oy' O).1;omega) U
    ·refine(nn' (G y f) u e s q b ?_).mono ?_
     ·by_cases h:e=a.epoch
      ·right;cases Q:a.welcome
       ·rfl
       ·exact absurd ⟨h,Q⟩ D
      ·exact .inl h
     rintro I r ⟨rfl,z⟩;have:a.deliver 4 e s q b=a:=by
      unfold Mod.Ag.deliver;rw[if_neg (by omega)];by_cases h:e=a.epoch
      ·rw[if_neg (by omega),if_neg (by omega),if_neg (by omega),if_pos rfl];cases Q:a.welcome
       ·rw[if_pos (.inl (by simp))]
       ·exact absurd ⟨h,Q⟩ D
      ·rw[if_pos (by omega)]
     rw[this,mB' (fun h=>D ⟨by omega,h.2⟩),cQ'];exact⟨rfl,(bM' (G y f) hs u).below z⟩
   ·by_cases k5:k=5
    ·refine nA' H hs 0 (fun y r=>bE' (dT' op (a.says k e s q b 0+a.says k e s q b 1+a.says k e s q b 2)) y r p (a.deliver k e s q b) c) (fun _ _ z h=>bE'.behind h z) bs k e s q b k5 J (fun y f=>?_);subst k5;rw[gJ' (by decide) (by decide),cQ'];exact kO' (G y f) hs u e s q b
    ·have:a.deliver k e s q b=a:=by
      unfold Mod.Ag.deliver;rw[if_neg (by omega)];by_cases h:e=a.epoch
      ·rw[if_neg (by omega),if_neg (by omega),if_neg (by omega),if_neg (by omega)]
      ·rw[if_pos (by omega)]
     rw[this,gJ' k2 k4,cQ'];exact jF' H hs u bs k e s q b k2 k4 k5 J
theorem kQ' (F:aA' w p g0 a.ticks a.welcome a.fenced free sh st c) (hs:cn' op st a free pl) (I:aO' a st.opening g0 free sh pl) (J:op.2=1) (bs:Value) (l:List UInt8) (r:0 < eS' a l) (M:∀i,i < 3->(a.fl i).base+(a.fl i).kept.length<=1000000000) (V:Y' w bs l):
  Calls Tryz.prog 57 #[y' p,bs] w fun G f=>G= .returned (.int .i64 4)/\fa' op.1 w f p a c:=by
 cases D:Wire.reads l
 ·rw[jR' D]at r;omega
 ·have H:=hC' D;obtain⟨k,e,s,q,b,h1,h2,h3,h4,h5,g1,g2,Z,aa⟩:=bH' D;rw[pn' D h1 h2 h3 h4 h5]at r;rw[h1,h2,h3,h4,h5]at H;have O:∀y,Below w.heap.size w y->Calls Tryz.prog 54 #[bs] y fun G f=>G= .returned (.tuple #[.agg #[.int .i64 k, .int .i64 e, .int .i64 s, .int .i64 q, .string b], .int .i64 0])/\Below y.heap.size y f:=fun y u=>by have:=cr' bs l y (V.below u);rw[D]at this;simp only[if_true,jV',h1,h2,h3,h4,h5]at this;exact this
  have Q:=fun y (u:Below w.heap.size w y)=>F.below u;have U:∀y f:World,Below w.heap.size w y->fa' op.1 y f p a c->fa' op.1 w f p a c:=fun _ _ X ⟨g,Y,s,t,h1,h2⟩=>⟨g,Y,s,t,h1.behind X,h2⟩;by_cases k2:k=2
  ·refine hQ' F hs 4 (fun y f=>fa' op.1 y f p a c) U bs k e s q b k2 O (fun y u=>?_);subst k2;by_cases z:e=a.epoch
   ·exact iM' (Q y u) hs I e s q b J r z (ox' H) M
   ·rw[mA' (fun h=>z (by omega))]at r;omega
  ·by_cases k4:k=4
   ·refine hR' F hs 4 (fun y f=>fa' op.1 y f p a c) U bs k e s q b k4 O (fun y u=>?_);subst k4;by_cases z:e=a.epoch/\a.welcome=true
    ·exact nz' (Q y u) hs I e s q b J r z.1 z.2 g2 (by have:=(oy' H).1;omega) M
    ·rw[mB' (fun h=>z ⟨by omega,h.2⟩)]at r;omega
   ·rw[gJ' k2 k4]at r;omega
end
theorem jo' (a:Mod.Ag) (i:Nat):(a.tick.1.fl i).base=(a.fl i).base/\(a.tick.1.fl i).kept.map (·.1)=(a.fl i).kept.map (·.1):=by
 unfold Mod.Ag.tick;split
 ·exact⟨rfl,rfl⟩
 ·split
  ·exact⟨rfl,rfl⟩
  ·simp only
   unfold Mod.sendFl;split
   ·exact⟨rfl,gH' _ _ _ _ _⟩
   ·exact⟨rfl,rfl⟩
section
variable {w:World} {p:Nat} {g:Nat->Nat} {free:List Nat} {sh:Nat->List (Nat×Value)} {st:Mod.Stv} {c:Av} {a:Mod.Ag} {pl:Nat->List Nat} {op:Nat}
end
section
variable {w:World} {p:Nat} {g:Nat->Nat} {free:List Nat} {sh:Nat->List (Nat×Value)} {st:Mod.Stv} {c:Av} {a:Mod.Ag} {pl:Nat->List Nat} {op:Nat}
end
def qX' (op:Nat×Nat) (w r:World) (p:Nat) (a':Mod.Ag) (c:Av) (lv:Value) (fs:List Value) (z:List ByteArray):Prop:=
 ∃f,L' w.heap.size r lv fs z (PaU p f)/\(∃g free sh u st,aA' r p g a'.ticks a'.welcome a'.fenced free sh st f/\cn' op st a' free u/\aO' a' st.opening g free sh u)/\Far (PaU p c) w r/\(∀k,PaU p f k->PaU p c k\/w.heap.size<=k)/\f.s=c.s/\f.rv=c.rv
section
variable {w:World} {p:Nat} {g:Nat->Nat} {free:List Nat} {sh:Nat->List (Nat×Value)} {st:Mod.Stv} {c:Av} {a:Mod.Ag} {pl:Nat->List Nat} {op:Nat×Nat}
theorem kR' (r:aA' w p g a.ticks a.welcome a.fenced free sh st c) (hs:cn' op st a free pl) (F:aO' a st.opening g free sh pl) (Z:a.ticks<=1000000000) (G:a.fenced=true):
  Calls Tryz.prog 53 #[y' p] w fun O Q=>O= .returned (.slice none 0 0)/\bE' op w Q p a.tick.1 c:=by
 have H:a.tick.1={a with ticks:=a.ticks+1}:=by unfold Mod.Ag.tick;rw[if_pos G]
 rw[H];have U:w.cell? ⟨p,23,none⟩=some (.int .i64 a.ticks):=by rw[m' r.ks.blk,r.ks.at']
 have f23:w.frozen? ⟨p,23,none⟩=false:=D' (i:=23) r.ks.blk;obtain⟨f,z⟩:∃f,f=a.ticks+1:=⟨_,rfl⟩;rw[<-z];have V:=t' z;have D:=t' (And.intro r (And.intro hs F));clear r F hs H z;unfold y' at *;go_enter Tryz.func53,Tryz.ntmps53;go_upto_region 2 with fail;refine C' (fun x=>az' w x p g f a.welcome a.fenced free sh st c) ?_ ?_
 ·rw[show((a.ticks:Int)+1)=((f:Nat):Int) by have:=i' V;omega];exact ee' (i' D).1 f
 clear U f23;rintro x X;obtain⟨c1,u,I,J,s1,M⟩:=X;have aa:x.cell? ⟨p,25,none⟩=some (.bool true):=by rw[m' u.ks.blk,u.ks.ae,G]
 have Y:=t' (⟨c1,u,I,J,s1,M⟩:az' w x p g f a.welcome a.fenced free sh st c);clear u I J s1 M;go_wp2;go_ret;exact⟨rfl,g,free,sh,pl,st,i' Y,(i' D).2.1.flags _ _ _,(i' D).2.2.flags f a.welcome a.fenced⟩
theorem lV' (u:aA' w p g a.ticks a.welcome a.fenced free sh st c) (hs:cn' op st a free pl) (H:aO' a st.opening g free sh pl) (aA:a.ticks<=1000000000) (V:a.epoch<=2147483647) (X:a.fenced=false) (Y:a.welcome=false):
  Calls Tryz.prog 53 #[y' p] w fun z Z=>∃lv fs x,z= .returned lv/\bE' op w x p a.tick.1 c/\Below x.heap.size x Z/\L' x.heap.size Z lv fs (a.tick.2.map fun l=>⟨l.toArray⟩) (fun _=>False):=by
 have aa:a.tick=({a with ticks:=a.ticks+1},[Wire.bytes 1 a.epoch 0 0 []]):=by unfold Mod.Ag.tick;rw[if_neg (by rw[X];decide),if_pos Y]
 rw[aa];simp only[List.map_cons,List.map_nil];have ai:w.cell? ⟨p,23,none⟩=some (.int .i64 a.ticks):=by rw[m' u.ks.blk,u.ks.at']
 have f23:w.frozen? ⟨p,23,none⟩=false:=D' (i:=23) u.ks.blk;obtain⟨r,I⟩:∃r,r=a.ticks+1:=⟨_,rfl⟩;rw[<-I];have aj:=t' I;obtain⟨ep,D⟩:∃ep,ep=a.epoch:=⟨_,rfl⟩;have ak:st.opening=ep:=by rw[D];exact H.ep
 rw[<-D]at V ⊢;have ao:=fun y=>t' (du' 1 ep 0 0 ⟨#[]⟩ y (nw' ep V));have J:=t' (And.intro u (And.intro hs H));have ap:=hs.dead;have aq:=t' D;clear u H hs aa I D;unfold y' at *;go_enter Tryz.func53,Tryz.ntmps53;go_upto_region 2 with fail;refine C' (fun x=>az' w x p g r a.welcome a.fenced free sh st c) ?_ ?_
 ·rw[show((a.ticks:Int)+1)=((r:Nat):Int) by have:=i' aj;omega];exact ee' (i' J).1 r
 clear ai f23;rintro x au;obtain⟨c1,f,ab,ac,s1,ad⟩:=au;have aB:x.cell? ⟨p,25,none⟩=some (.bool false):=by rw[m' f.ks.blk,f.ks.ae,X]
 have aC:x.cell? ⟨p,24,none⟩=some (.bool false):=by rw[m' f.ks.blk,f.ks.aw,Y]
 have aD:x.cell? ⟨p,0,none⟩=some (.pointer (some ⟨c1.s,0,none⟩)):=by rw[m' f.ks.blk,f.ks.a0];rfl
 have M:=ab' f.stt;rw[ap]at M;have av:=t' M;have O:=bk' f;rw[ak]at O;have ax:=t' O;have ay:=t' (⟨c1,f,ab,ac,s1,ad⟩:az' w x p g r a.welcome a.fenced free sh st c);clear f ab ac s1 ad M O;unfold y' at *;go_wp2_with (first|(go_at_call 86;refine(i' av).mono ?_;rintro z y ⟨rfl,Q⟩;obtain rfl:x=y:=Q.symm)|(go_at_call 66;refine(i' ax).mono ?_;rintro z y ⟨rfl,Q⟩;obtain rfl:x=y:=Q.symm)|(go_at_call 92;refine(i' (ao _)).mono ?_;rintro z v ⟨aE,rfl,F,U⟩;obtain⟨aF,cap,rfl,_⟩:=F.shape;replace F:=t' F;replace U:=t' U));go_ret;have G:=i' U;have az:=i' F;have e:=i' aq;subst e;have ah:x.heap.size<=v.heap.size:=by have:=G.size;first|omega|(simp at this;omega)
 exact⟨_,_,x,rfl,⟨g,free,sh,pl,st,i' ay,(i' J).2.1.flags _ _ _,(i' J).2.2.flags r a.welcome a.fenced⟩,(by first|exact G.alloc G.size _|exact(((Below.refl _ x).alloc (Nat.le_refl _) _).trans (G.mono (by simp))).alloc ah _),er' (World.ownsRow.alloc (az.mono (by omega)) _) ah (heap_alloc_new _ _)⟩
theorem nB' (O:aA' w p g a.ticks a.welcome a.fenced free sh st c) (hs:cn' op st a free pl) (ax:aO' a st.opening g free sh pl) (bp:a.ticks<=1000000000) (ay:∀i,i < 3->(a.fl i).base+(a.fl i).kept.length < 4294967296) (az:∀i,i < 3->∀x∈ (a.fl i).kept,x.1.size<=20/\x.2<=1000000000000) (ab:a.fenced=false) (ac:a.welcome=true):
  Calls Tryz.prog 53 #[y' p] w fun ad aL=>∃lv fs,ad= .returned lv/\qX' op w aL p a.tick.1 c lv fs (a.tick.2.map fun l=>⟨l.toArray⟩):=by
 have aM:w.cell? ⟨p,23,none⟩=some (.int .i64 a.ticks):=by rw[m' O.ks.blk,O.ks.at']
 have f23:w.frozen? ⟨p,23,none⟩=false:=D' (i:=23) O.ks.blk;obtain⟨f,V⟩:∃f,f=a.ticks+1:=⟨_,rfl⟩;have ah:=jo' a;rw[my' ab ac,<-V]at ah;have aN:=t' ah;clear ah;rw[my' ab ac,<-V];have aO:=t' V;have aA:=fun(wr:World) (c2:Av) (F:Nat->List (Nat×Value)) (j:Nat) (hj:j < 3) (K:aA' wr p g (bn' a f j).ticks (bn' a f j).welcome (bn' a f j).fenced free F st c2) (aP:aO' (bn' a f j) st.opening g free F pl)=>
  qU' K aP j hj (by show f≠0;omega) (by show f<= _;omega) (by rw[gd'];exact ay j hj) (by rw[gd'];exact az j hj)
 have aQ:=t' aA;have ai:=t' (And.intro O (And.intro hs ax));have aR:=hs.dead;clear O ax hs V aA ay az;unfold y' at *;go_enter Tryz.func53,Tryz.ntmps53;go_upto_region 2 with fail;refine C' (fun x=>az' w x p g f a.welcome a.fenced free sh st c) ?_ ?_
 ·rw[show((a.ticks:Int)+1)=((f:Nat):Int) by have:=i' aO;omega];exact ee' (i' ai).1 f
 clear aM f23;rintro x aS;obtain⟨c1,z,aB,aC,s1,X⟩:=aS;have aT:x.cell? ⟨p,25,none⟩=some (.bool false):=by rw[m' z.ks.blk,z.ks.ae,ab]
 have aU:x.cell? ⟨p,24,none⟩=some (.bool true):=by rw[m' z.ks.blk,z.ks.aw,ac]
 have aV:x.cell? ⟨p,0,none⟩=some (.pointer (some ⟨c1.s,0,none⟩)):=by rw[m' z.ks.blk,z.ks.a0];rfl
 have aj:=ab' z.stt;rw[aR]at aj;have aD:=t' aj;have aE:=t' (⟨c1,z,aB,aC,s1,X⟩:az' w x p g f a.welcome a.fenced free sh st c);clear z aB aC s1 X aj;unfold y' at *;go_wp2_with (go_at_call 86;refine(i' aD).mono ?_;rintro ad y ⟨rfl,aW⟩;obtain rfl:x=y:=aW.symm);go_loopw[3,4,33] (fun v _ i wr=>∃j:Nat,j<=3/\i= .int .i64 j/\∃fs c2 F,L' w.heap.size wr v fs (kH' a f j) (PaU p c2)/\aA' wr p g (bn' a f j).ticks (bn' a f j).welcome (bn' a f j).fenced free F st c2/\aO' (bn' a f j) st.opening g free F pl/\Far (PaU p c) w wr/\(∀k,PaU p c2 k->PaU p c k\/w.heap.size<=k)/\c2.s=c.s/\c2.rv=c.rv) (fun _ _ i _=>3 - (intOf i).toNat)
 case atStart=>
  obtain⟨c2,aX,aY,aZ,s1,X⟩:=i' aE;refine⟨0,by omega,rfl,[],c2,sh,⟨rfl,World.ownsRow_nil _ _ _ _,(fun j v hj=>by simp at hj),(fun i j bq v hi=>by simp at hi),fun k J=>?_⟩,aX,?_,aY,aZ,s1,X⟩
  ·rcases J with h|⟨j,hj,_⟩
   ·cases h
   ·simp at hj
  ·rw[oY'];exact(i' ai).2.2.flags f a.welcome a.fenced
 case round=>
  obtain⟨j,hj,rfl,fs,c2,F,r,G,M,u,D,H,I⟩:=hrel;clear aE aD aV aU aT;by_cases ba:j < 3
  ·have aF:=t' ((i' aQ) wr c2 F j ba G M);have br:(0:Int)<=(j:Int):=by omega
   have aG:(j:Int) < 3:=by omega
   have bb:=kK' a f j;have bt:=kJ' (bn' a f j) j (bn' a f j).ticks;obtain⟨Q,ak⟩:∃n,n=fs.length:=⟨_,rfl⟩;have bu:Q<=8:=by have:=r.len;omega
   have bc:=t' ak;have bw:=u.size;have Y:=r.row;rw[<-ak]at Y;obtain⟨Z,cap,rfl,_⟩:=(al' Y).shape;have bd:=t' Y;clear Y ak bb;have U:=t' (And.intro r (And.intro G (And.intro u (And.intro D (And.intro H I)))));clear r G M u D H I;unfold y' at aF;go_upto_region 10 with fail;go_upto_region 11 with (first
    |(go_at_call 93;(refine(i' aF).mono ?_;rintro ad y ⟨bz,ao,c3,be,rfl,k1,k2,k3,k4,k5,k6,k7⟩;obtain⟨ap,aq⟩:∃n,n=ao.length:=⟨_,rfl⟩;have bA:ap<=4:=(by have:=k1.len;omega);have aa:=k1.row;rw[<-aq]at aa;have bf:=t' aq;have bB:=k4.size;obtain⟨bg,bh,bi,_⟩:=(al' aa).shape;subst bi;have bj:=t' aa;clear aa aq;have au:=t' (And.intro k1 (And.intro k2 (And.intro k3 (And.intro k4 (And.intro k5 (And.intro k6 k7))))));clear k1 k2 k3 k4 k5 k6 k7))
    |(at_builtin;(refine kI' rfl (.tmp 36) (.tmp 39) 38 rfl w.heap.size 44 (.slice none 0 0) 1 24 Tryz.underlying38 (by kernel_rfl) rfl (by decide) (.slice Z Q cap) Q fs (M' (i' bd) (fun k J=>(i' au).2.2.2.1.rest k ((i' U).1.lt k (.inl J)).2 ((i' U).1.clear k (.inl J)))) rfl wr.heap.size (.slice bg ap bh) ap ao (i' bj) rfl (i' au).1.one (by unfold maxLen;omega) (by omega) (by omega) ?_;intro bC bD av aH aI;obtain⟨bE,bF,bk,_⟩:=(al' av).shape;subst bk;have bl:=t' (And.intro av (And.intro aH aI));clear av aH aI)))
   go_wp2;go_roundw
   case rel=>
    obtain⟨r,G,u,D,H,I⟩:=i' U;obtain⟨k1,k2,k3,k4,k5,k6,k7⟩:=i' au;obtain⟨bm,aJ,bn⟩:=i' bl;have hF:=lT' (lv:= .slice Z Q cap) r k1 k4 k5 k2.lt u.size (by rw[<-i' bc,<-i' bf];exact bm) aJ bn;have bo:∀k,PaU p c3 k->¬ (Value.slice Z Q cap).ownBlock=some k:=fun k hu e=>by
     have h1:=r.lt k (.inl e);rcases k5 k hu with h2|h2
     ·exact r.clear k (.inl e) h2
     ·omega
    have aK:=bl' aJ;refine⟨j+1,by omega,by go_num,fs++ao,c3,be,?_,k2.far aK (fun k hu e=>bo k hu (by simpa using e)),?_,(u.trans k4 (fun k J hu=>?_)).trans aK (fun k J e=>?_),fun k hu=>?_,k6.trans H,k7.trans I⟩
    ·rw[jn'];exact hF
    ·have:=k3;rw[show(bn' a f j).ticks=f from rfl,oX']at this;exact this
    ·rcases D k hu with h|h
     ·exact h
     ·omega
    ·have:=(r.lt k (.inl (by simpa using e))).1;omega
    ·rcases k5 k hu with h|h
     ·exact D k h
     ·exact .inr (by omega)
   case measure=>simp[intOf];omega
  ·have aG:j=3:=by omega
   subst aG;have U:=t' (And.intro r (And.intro G (And.intro M (And.intro u (And.intro D (And.intro H I))))));obtain⟨Z,cap,rfl,_⟩:=(al' r.row).shape;clear r G M u D H I;go_wp2;go_ret;obtain⟨r,G,M,u,D,H,I⟩:=i' U;exact⟨_,fs,rfl,c2,r,⟨g,free,F,pl,st,G,(i' ai).2.1.same (fun i _=>(i' aN) i),M⟩,u,D,H,I⟩
end
theorem mC' {op:Nat×Nat} {w x f:World} {p:Nat} {a':Mod.Ag} {c:Av} {lv:Value} {fs:List Value} {r:List ByteArray} (h:bE' op w x p a' c) (u:Below x.heap.size x f) (D:L' x.heap.size f lv fs r (fun _=>False)):qX' op w f p a' c lv fs r:=by
 obtain⟨g,free,sh,F,st,⟨G,K,z,N,s1,H⟩,hs,I⟩:=h;exact⟨G,D.up z.size K.lt,⟨g,free,sh,F,st,K.below u,hs,I⟩,z.trans (A' u) (fun _ _ h=>h),N,s1,H⟩
section
variable {w:World} {p:Nat} {g:Nat->Nat} {free:List Nat} {sh:Nat->List (Nat×Value)} {st:Mod.Stv} {c:Av} {a:Mod.Ag} {pl:Nat->List Nat} {op:Nat×Nat}
theorem po' {N:Nat} (u:aA' w p g a.ticks a.welcome a.fenced free sh st c) (hs:cn' op st a free pl) (z:aO' a st.opening g free sh pl) (f:aH' N a) (M:N < 1000000000):
  Calls Tryz.prog 53 #[y' p] w fun D F=>∃lv fs,D= .returned lv/\qX' op w F p a.tick.1 c lv fs (a.tick.2.map fun l=>⟨l.toArray⟩):=by
 have G:a.ticks<=1000000000:=by have:=f.tk;omega
 cases r:a.fenced with
 |true=>
  refine(kR' u hs z G r).mono ?_;rintro D F ⟨rfl,h⟩;have J:a.tick.2=[]:=by unfold Mod.Ag.tick;rw[if_pos r]
  rw[J];exact⟨_,[],rfl,mC' h (Below.refl _ _) ⟨rfl,World.ownsRow_nil _ _ _ _,(fun j v hj=>by simp at hj),(fun i j O v hi=>by simp at hi),fun k Q=>fun h=>h⟩⟩
 |false=>
  cases H:a.welcome with
  |false=>refine(lV' u hs z G f.ep r H).mono ?_;rintro D F ⟨lv,fs,x,rfl,h1,h2,h3⟩;exact⟨lv,fs,rfl,mC' h1 h2 h3⟩
  |true=>exact nB' u hs z G (fun i hi=>by have:=f.sum i hi;omega) (fun i hi x I=>⟨(f.bod i hi x I).1,by have:=(f.bod i hi x I).2;omega⟩) r H
end
theorem kS':(Tryz.prog.info? 201).map (·.size)=some 2:=by kernel_rfl
theorem dH' (S:List UInt8) (u:S.length=64) (g:Nat) (t:TypeId) (w:World) (h:w.heap[g]? =some (.cells (bv S).toArray t (0,0))) (i n cap:Nat) (hi:i+4<=64) (r:4<=n):
  Calls Tryz.prog 95 #[.slice (some ⟨g,i,none⟩) n cap] w fun e w'=>e= .returned (.int .u32 (Wire.numAt S i))/\Below w.heap.size w w':=by
 have f:∀j,j < 64->w.cell? ⟨g,j,none⟩=some (.int .u8 (S.getD j 0).toNat):=fun j hj=>by rw[m' h,rA' (by omega)]
 refine(dh' g i n cap (S.getD i 0) (S.getD (i+1) 0) (S.getD (i+2) 0) (S.getD (i+3) 0) w r (f _ (by omega)) (f _ (by omega)) (f _ (by omega)) (f _ (by omega))).mono ?_;rintro z y ⟨rfl,k,rfl⟩;exact⟨rfl,below_drewN (Below.refl _ _) k⟩
theorem cR' (S:List UInt8) (i:Nat):((Wire.numAt S i).toNat:Int)=Wire.numAt S i:=by have:=Wire.numAt_range S i;omega
theorem tV' (S:List UInt8):(Mod.ctOf S:Int)=Wire.numAt S 4+Wire.numAt S 8 * 4294967296:=by
 unfold Mod.ctOf;have:=cR' S 4;have:=cR' S 8;omega
theorem wg' (S:List UInt8):bits BinOp.or IntKind.u64 (Wire.numAt S 4) (Wire.numAt S 8 * 4294967296)=(Mod.ctOf S:Int):=by
 have h1:=Wire.numAt_range S 4;have h2:=Wire.numAt_range S 8;rw[u64_or32 _ _ h1.1 h1.2 (by omega) (by omega) (by omega),tV']
theorem jp' (S:List UInt8) (H:S.length=64) (w:World):
  Calls Tryz.prog 219 #[.agg (bv S).toArray] w fun D w'=>D= .returned (.agg #[.int .u32 (Mod.opOf S), .int .u64 (Mod.ctOf S)])/\Below w.heap.size w w':=by
 have U:=fun(y:World) (h:y.heap[w.heap.size]? =some (.cells (bv S).toArray 207 (0,0)))=>t' (dH' S H w.heap.size _ y h 0 64 64 (by omega) (by omega));have V:=fun(y:World) (h:y.heap[w.heap.size]? =some (.cells (bv S).toArray 207 (0,0)))=>t' (dH' S H w.heap.size _ y h 4 60 60 (by omega) (by omega));have X:=fun(y:World) (h:y.heap[w.heap.size]? =some (.cells (bv S).toArray 207 (0,0)))=>t' (dH' S H w.heap.size _ y h 8 56 56 (by omega) (by omega));have I:=t' (wg' S);have Y:Hid ((Mod.opOf S:Int)=Wire.numAt S 0):=cR' S 0;obtain⟨ct,Z⟩:∃ct,ct=Mod.ctOf S:=⟨_,rfl⟩;obtain⟨on,aa⟩:∃on,on=Mod.opOf S:=⟨_,rfl⟩;rw[<-Z]at I ⊢;rw[<-aa]at Y ⊢;clear Z aa;have ao:=Wire.numAt_range S 4;have ap:=Wire.numAt_range S 8;obtain⟨aE,aF⟩:=ao;obtain⟨aG,aH⟩:=ap;go_enter Tryz.func219,Tryz.ntmps219;go_upto_region 1 with fail;refine C' (fun x=>x.heap[w.heap.size]? =some (.cells (bv S).toArray 207 (0,0))/\x.heap[w.heap.size+1]? =some (.cells #[.int .u32 0, .int .u64 0] 201 (0,0))/\Below w.heap.size w x) (bS' _ _ _) ?_;rintro x ⟨h0,h1,ab⟩;have aq:=lt_of_block h1;have au:=t' h0;have av:=t' h1;have ac:=t' ab;clear h0 h1 ab;generalize aI:Wire.numAt S 0=u at *;generalize aJ:Wire.numAt S 4=F at *;generalize aK:Wire.numAt S 8=z at *;have aL:IntKind.u64.wrap F=F:=by rw[IntKind.wrap_u64];omega
 have aM:IntKind.u64.wrap z=z:=by rw[IntKind.wrap_u64];omega
 have aN:IntKind.u64.wrap (z * 4294967296)=z * 4294967296:=by rw[IntKind.wrap_u64];omega
 refine aj' (by kernel_rfl)
  [fun v _=>v= .slice (some ⟨w.heap.size,0,none⟩) 64 64,fun v _=>v= .int .u32 u,fun v _=>v= .slice (some ⟨w.heap.size,4,none⟩) 60 60,fun v _=>v= .int .u32 F,fun v _=>v= .int .u64 F,
   fun v _=>v= .slice (some ⟨w.heap.size,8,none⟩) 56 56,fun v _=>v= .int .u32 z,fun v _=>v= .int .u64 z,fun v _=>v= .int .u64 (z * 4294967296),fun v _=>v= .int .u64 ct,fun v _=>v= .agg #[.int .u32 u, .int .u64 ct],fun _ _=>True]
  [[(1,none)],[(3,some 0)],[(1,none)],[(5,some 2)],[(6,some 3)],[(1,none)],[(8,some 5)],[(9,some 6)],[(10,some 7)],[(7,some 4),(11,some 8)],[(4,some 1),(12,some 9)],[(2,none),(13,some 10)]] [some 3,some 4,some 5,some 6,some 7,some 8,some 9,some 10,some 11,some 12,some 13,none] [false,false,false,true,true,true,true,true,true,true,true,true,true,true]
  11 _ rfl rfl (by kernel_rfl) (by kernel_rfl) (by kernel_rfl) (by kernel_rfl) (by kernel_rfl) (by kernel_rfl) ?_ ?_ ?_
 ·repeat' (first|exact J' _|exact Z'|exact trivial|apply And.intro)
 ·refine⟨?_,?_,?_,?_,?_,?_,?_,?_,?_,?_,?_,trivial⟩;all_goals
   intro a y ad ah;have G:=(ad.block _ (by omega:w.heap.size < x.heap.size)).trans (i' au);have ax:=U y G;have ay:=V y G;have az:=X y G;clear ad G U V X;simp only[I',List.getD_cons_zero,List.getD_cons_succ,Array.getD_eq_getD_getElem?]at ah;try simp at ah
  ·go_simp;first|exact Below.refl _ _|exact⟨_,rfl,Below.refl _ _,rfl⟩
  ·go_simp;refine(i' ax).mono ?_;rintro D ai ⟨rfl,f⟩;first|exact f|exact⟨rfl,f⟩|exact⟨_,rfl,f,rfl⟩
  ·go_simp;first|exact Below.refl _ _|exact⟨_,rfl,Below.refl _ _,rfl⟩
  ·go_simp;refine(i' ay).mono ?_;rintro D ai ⟨rfl,f⟩;first|exact f|exact⟨rfl,f⟩|exact⟨_,rfl,f,rfl⟩
  ·go_simp;first|exact Below.refl _ _|exact⟨_,rfl,Below.refl _ _,rfl⟩
  ·go_simp;first|exact Below.refl _ _|exact⟨_,rfl,Below.refl _ _,rfl⟩
  ·go_simp;refine(i' az).mono ?_;rintro D ai ⟨rfl,f⟩;first|exact f|exact⟨rfl,f⟩|exact⟨_,rfl,f,rfl⟩
  ·go_simp;first|exact Below.refl _ _|exact⟨_,rfl,Below.refl _ _,rfl⟩
  ·go_simp;first|exact Below.refl _ _|exact⟨_,rfl,Below.refl _ _,rfl⟩
  ·go_simp;first|exact⟨by rw[i' I],Below.refl _ _⟩|exact⟨_,rfl,Below.refl _ _,by rw[<-i' I]⟩
  ·go_simp;first|exact Below.refl _ _|exact⟨_,rfl,Below.refl _ _,rfl⟩
 ·intro r y J M;simp only[ae',List.take]at M;have aA:=M.2.2.2.2.2.2.2.2.2.2.1;have O:=(J.block _ aq).trans (i' av);have aj:=t' ((i' ac).trans (J.mono (i' ac).size));clear M J;simp only[R',aA];refine wp_store_row 201 (.tmp 2) (.tmp 13) rfl (w.heap.size+1) #[.int .u32 u, .int .u64 ct] (by simp[Act.eval]) (by simp[Act.eval]) 201 _ O (by rw[kS'];rfl) (by simp) (by rw[Array.all_eq_true_iff_forall_mem];intro aO hu;simp at hu;rcases hu with rfl|rfl <;> rfl) ?_;have Q:=setRow_heap y (w.heap.size+1) _ #[.int .u32 u, .int .u64 ct] 201 (0,0) O;have aB:=t' (aR' y (w.heap.size+1) #[.int .u32 u, .int .u64 ct]);generalize r 3=aP;generalize r 4=aQ;generalize r 5=aR;generalize r 6=aS;generalize r 7=aT;generalize r 8=aU;generalize r 9=aV;generalize r 10=aW;generalize r 11=aX;generalize r 12=aY;generalize y.setRow (w.heap.size+1) #[.int .u32 u, .int .u64 ct]=ak at *;have aC:ak.cell? ⟨w.heap.size+1,0,none⟩=some (.int .u32 u):=m' (i:=0) Q;have aD:ak.cell? ⟨w.heap.size+1,1,none⟩=some (.int .u64 ct):=m' (i:=1) Q;clear Q O;go_simp;go_wp2;refine bodyPost_ret (v:= .agg #[.int .u32 u, .int .u64 ct]) (by simp[results,Tryz.results219,go_sem,aC,aD]) rfl ⟨by rw[i' Y],?_⟩;exact(i' aj).trans ((i' aB).below (i' aj).size (fun k aZ e=>by omega))
theorem jq' (o c:Nat) (w:World):Calls Tryz.prog 220 #[.agg #[.int .u32 o, .int .u64 c]] w fun f w'=>f= .returned (.bool (Mod.isStamp o))/\Below w.heap.size w w':=by
 by_cases h1:(1:Int)<=(o:Int)
 ·by_cases h2:(o:Int)<=1073741824
  ·go_enter Tryz.func220,Tryz.ntmps220;go_wp2;go_ret;exact⟨bt' (by simp[Mod.isStamp];omega),(Below.refl _ _).alloc (Nat.le_refl _) _⟩
  ·go_enter Tryz.func220,Tryz.ntmps220;go_wp2;go_ret;exact⟨bt' (by simp[Mod.isStamp];omega),(Below.refl _ _).alloc (Nat.le_refl _) _⟩
 ·go_enter Tryz.func220,Tryz.ntmps220;go_wp2;go_ret;exact⟨bt' (by simp[Mod.isStamp];omega),(Below.refl _ _).alloc (Nat.le_refl _) _⟩
def gn' (h:Mod.Hd):Value:= .agg #[.int .u32 h.o, .int .u64 h.c, .int .i64 h.a, .int .i64 h.b, .int .i64 h.d]
def hdK (o c a b d k:Nat):Array Value:= #[.int .u32 o, .int .u64 c, .int .i64 (if 0 < k then a else 0:Nat), .int .i64 (if 1 < k then b else 0:Nat), .int .i64 (if 2 < k then d else 0:Nat)]
theorem bN':Mod.nought=aP':=rfl
theorem lW' (S:List UInt8) (aE:S.length=64) (aN:S≠aP') (w:World):Calls Tryz.prog 194 #[.agg (bv S).toArray] w fun O w'=>
  ∃h:Mod.Hd,O= .returned (.tuple #[gn' h, .bool (Mod.headOk S)])/\(Mod.headOk S=true->h=Mod.hdOf S)/\Below w.heap.size w w':=by
 have aT:=fun y=>is' (S:=S) (T:=aP') aE ax' y;rw[decide_eq_false aN]at aT;have aF:Mod.headOk S=((Mod.hdOf S).small&& (Mod.isStamp (Mod.opOf S) &&decide (Mod.sealH (Mod.hdOf S)=S))):=by unfold Mod.headOk;rw[bN',decide_eq_false aN,Bool.false_or]
 have aJ:=fun(i n cap:Nat) (hi:i+4<=64) (M:4<=n) (y:World) (h:y.heap[w.heap.size]? =some (.cells (bv S).toArray 207 (0,0)))=>dH' S aE w.heap.size _ y h i n cap hi M;have aj:=fun y h=>t' (aJ 12 52 52 (by omega) (by omega) y h);have ak:=fun y h=>t' (aJ 16 48 48 (by omega) (by omega) y h);have ao:=fun y h=>t' (aJ 20 44 44 (by omega) (by omega) y h);rw[<-cR' S 12]at aj;rw[<-cR' S 16]at ak;rw[<-cR' S 20]at ao;have bl:=Wire.numAt_range S 12;have bm:=Wire.numAt_range S 16;have bn:=Wire.numAt_range S 20;have aU:=fun y=>t' (jp' S aE y);have aV:=Mod.opOf_lt S;have aW:=Mod.ctOf_lt S;have ap:=fun y=>t' (jq' (Mod.opOf S) (Mod.ctOf S) y);have aX:=fun y=>t' (gT' (Mod.opOf S) (Mod.ctOf S) (Wire.numAt S 12).toNat (Wire.numAt S 16).toNat (Wire.numAt S 20).toNat y aV aW (by omega) (by omega) (by omega));have aY:=Mod.length_sealH (Mod.hdOf S);have aq:=fun y=>is' (S:=Mod.sealH (Mod.hdOf S)) (T:=S) aY aE y;have aO:Mod.hdOf S=⟨Mod.opOf S,Mod.ctOf S,(Wire.numAt S 12).toNat,(Wire.numAt S 16).toNat,(Wire.numAt S 20).toNat⟩:=rfl;have aZ:(Mod.hdOf S).small=(decide ((Wire.numAt S 12).toNat<=2147483647) && (decide ((Wire.numAt S 16).toNat<=2147483647) &&decide ((Wire.numAt S 20).toNat<=2147483647))):=rfl;rw[aZ]at aF;have aa:∀y,Hid (Calls Tryz.prog 198 #[gn' (Mod.hdOf S)] y fun O w'=>O= .returned (.agg (bv (Mod.sealH (Mod.hdOf S))).toArray)/\Below y.heap.size y w'):=aX;rw[aO]at aa aq ⊢;unfold gn' at aa;simp only at aa;have bM:(Wire.numAt S 12).toNat < 4294967296:=by omega
 have f:(Wire.numAt S 16).toNat < 4294967296:=by omega
 have hd:(Wire.numAt S 20).toNat < 4294967296:=by omega
 rw[aO]at aF;clear aX aJ aO aZ bl bm bn aY;generalize (Wire.numAt S 12).toNat=a at *;generalize (Wire.numAt S 16).toNat=b at *;generalize (Wire.numAt S 20).toNat=d at *;generalize Mod.opOf S=o at *;generalize Mod.ctOf S=c at *;obtain⟨T,ba⟩:∃T,T=Mod.sealH ⟨o,c,a,b,d⟩:=⟨_,rfl⟩;rw[<-ba]at aa aq aF;clear ba;obtain⟨ok,bb⟩:∃ok,ok=Mod.headOk S:=⟨_,rfl⟩;rw[<-bb]at aF ⊢;clear bb;have ab:=t' aF;clear aF aN aV aW;go_enter Tryz.func194,Tryz.ntmps194;go_upto_region 1 with fail;refine C' (fun x=>x.heap[w.heap.size]? =some (.cells (bv S).toArray 207 (0,0))/\x.heap[w.heap.size+1]? =some (.cells #[.int .u32 0, .int .u64 0, .int .i64 0, .int .i64 0, .int .i64 0] 217 (0,0))/\Below w.heap.size w x) (bS' _ _ _) ?_;rintro x ⟨h0,h1,I⟩;have aA:=t' h0;have aB:=t' h1;have au:=t' I;clear h0 h1 I;go_upto_region 4 with (first
  |(refine bO' rfl (.tmp 1) rfl w.heap.size rfl 207 S aE (i' aA) ?_)
  |(refine bV' rfl rfl ?_;go_simp)
  |(go_at_call 219;refine(i' (aU _)).mono ?_;rintro O y ⟨rfl,u⟩))
 have bo:=u.size;obtain⟨r,aP⟩:∃r,r=y.heap.size:=⟨_,rfl⟩;rw[<-aP];have bN:w.heap.size+1 < r:=by have:=lt_of_block (i' aB);omega
 refine C' (fun x=>x.heap[w.heap.size]? =some (.cells (bv S).toArray 207 (0,0))/\x.heap[w.heap.size+1]? =some (.cells #[.int .u32 0, .int .u64 0, .int .i64 0, .int .i64 0, .int .i64 0] 217 (0,0))/\x.heap[r]? =some (.cells (hdK o c a b d 0) 217 (0,0))/\Below w.heap.size w x) ?_ ?_
 ·have bp:=lt_of_block (i' aA);have aQ:=lt_of_block (i' aB);refine⟨(hao _ _ (by omega)).trans ((u.block _ bp).trans (i' aA)),(hao _ _ (by omega)).trans ((u.block _ aQ).trans (i' aB)),by rw[aP];exact heap_alloc_new _ _,((i' au).trans (u.mono (i' au).size)).alloc (by omega) _⟩
 clear u bo aP aA aB au aT aU x;rintro x ⟨h0,h1,h4,I⟩;have bc:=t' (And.intro h0 (And.intro h1 (And.intro h4 I)));clear h0 h1 h4 I y;go_wp2;go_loopw[5,6,14] (fun _ _ i wr=>∃k:Nat,k<=3/\i= .int .i64 k/\(wr.heap[w.heap.size]? =some (.cells (bv S).toArray 207 (0,0))/\wr.heap[w.heap.size+1]? =some (.cells #[.int .u32 0, .int .u64 0, .int .i64 0, .int .i64 0, .int .i64 0] 217 (0,0))/\wr.heap[r]? =some (.cells (hdK o c a b d k) 217 (0,0))/\Below w.heap.size w wr)/\(0 < k->a<=2147483647)/\(1 < k->b<=2147483647)/\(2 < k->d<=2147483647)) (fun _ _ i _=>3 - (intOf i).toNat)
 case atStart=>exact⟨0,by omega,rfl,i' bc,by omega,by omega,by omega⟩
 case round=>
  obtain⟨k,bd,rfl,⟨h0,h1,h4,I⟩,k0,k1,k2⟩:=hrel;clear bc;have aK:=lt_of_block h4;have aC:∀i,wr.frozen? ⟨r,i,none⟩=false:=fun i=>D' h4;have ad:∀i,wr.frozen? ⟨w.heap.size+1,i,none⟩=false:=fun i=>D' h1;have aQ:=lt_of_block h1;have ah:∀ (n:Nat) (y:World),2147483647 < n->Below wr.heap.size wr y->Hid (y.heap[w.heap.size+1]? =some (.cells #[.int .u32 0, .int .u64 0, .int .i64 0, .int .i64 0, .int .i64 0] 217 (0,0))/\Below w.heap.size w y):=fun n y _ f=>⟨(f.block _ aQ).trans h1,I.trans (f.mono I.size)⟩;have ai:∀ (v:Value) (j:Nat) (y:World),wr.heap[r]? =some (.cells (hdK o c a b d j) 217 (0,0))->(hdK o c a b d j).setIfInBounds (2+j) v=hdK o c a b d (j+1)->Below wr.heap.size wr y->
    (y.setCell ⟨r,2+j,none⟩ v).heap[w.heap.size]? =some (.cells (bv S).toArray 207 (0,0))/\(y.setCell ⟨r,2+j,none⟩ v).heap[w.heap.size+1]? =some (.cells #[.int .u32 0, .int .u64 0, .int .i64 0, .int .i64 0, .int .i64 0] 217 (0,0))/\(y.setCell ⟨r,2+j,none⟩ v).heap[r]? =some (.cells (hdK o c a b d (j+1)) 217 (0,0))/\Below w.heap.size w (y.setCell ⟨r,2+j,none⟩ v):=by
   intro v j y h4 bq f;have hs:=O' y r (2+j) v;refine⟨hs.blk ((f.block _ (by omega)).trans h0) (by omega),hs.blk ((f.block _ (by omega)).trans h1) (by omega),?_,(I.trans (f.mono I.size)).setCell (by show w.heap.size<=r;omega) _⟩;rw[<-bq];exact af' ((f.block _ aK).trans h4)
  obtain rfl|rfl|rfl|rfl:k=0\/k=1\/k=2\/k=3:=by omega
  ·have M:=t' (i' (aj wr h0));by_cases be:(2147483647:Int) < (a:Int)
   ·have av:=fun y f=>ah a y (by omega) f;have ax:=ab;clear h0 h4 I aC aj ak ao ah ai h1 ad ap aa aq ab k0 k1 k2;go_upto_region 8 with (go_at_call 95;refine(i' M).mono ?_;rintro O y ⟨rfl,u⟩);obtain⟨F,ay⟩:=i' (av y u);have aG:=t' ay;have U:=m' (i:=0) F;have V:=m' (i:=1) F;have X:=m' (i:=2) F;have Y:=m' (i:=3) F;have Z:=m' (i:=4) F;have ad:∀i,y.frozen? ⟨w.heap.size+1,i,none⟩=false:=fun i=>D' F;simp at U V X Y Z;clear u av F ay M;go_wp2;refine bodyPost_ret (v:= .tuple #[.agg #[.int .u32 0, .int .u64 0, .int .i64 0, .int .i64 0, .int .i64 0], .bool false]) (by simp[results,Tryz.results194,go_sem,U,V,X,Y,Z]) rfl ⟨⟨0,0,0,0,0⟩,?_,fun h=>?_,?_⟩
    ·have:ok=false:=by rw[i' ax,decide_eq_false (show ¬a<=2147483647 by omega)];simp
     rw[this];rfl
    ·have:ok=false:=by rw[i' ax,decide_eq_false (show ¬a<=2147483647 by omega)];simp
     rw[this]at h;cases h
    ·exact(((((i' aG).setCell (p:=⟨w.heap.size+1,0,none⟩) (by simp) _).setCell (p:=⟨w.heap.size+1,1,none⟩) (by simp) _).setCell (p:=⟨w.heap.size+1,2,none⟩) (by simp) _).setCell (p:=⟨w.heap.size+1,3,none⟩) (by simp) _).setCell (p:=⟨w.heap.size+1,4,none⟩) (by simp) _
   ·have az:=fun y f=>t' (ai (.int .i64 a) 0 y h4 rfl f);have J:=t' (And.intro k0 (And.intro k1 k2));have bf:IntKind.i64.wrap (a:Int)=(a:Int):=by rw[IntKind.wrap_i64];omega
    clear h0 h1 I ad aj ak ao ah ai ap aa aq ab k0 k1 k2 aC;go_upto_region 8 with (go_at_call 95;refine(i' M).mono ?_;rintro O y ⟨rfl,u⟩);have ac:=(u.block _ aK).trans h4;have bg:∀i,y.frozen? ⟨r,i,none⟩=false:=fun i=>D' ac;have bh:y.cell? ⟨r,2,none⟩=some (.int .i64 0):=by rw[m' ac];rfl
    have aH:=t' (i' (az y u));clear h4 u ac az M;go_wp2;go_roundw
    case rel=>exact⟨1,by omega,rfl,i' aH,by first|omega|(intro _;exact(i' J).1 (by omega)),by first|omega|(intro _;exact(i' J).2.1 (by omega)),by first|omega|(intro _;exact(i' J).2.2 (by omega))⟩
    case measure=>simp[intOf]
  ·have M:=t' (i' (ak wr h0));by_cases be:(2147483647:Int) < (b:Int)
   ·have av:=fun y f=>ah b y (by omega) f;have ax:=ab;clear h0 h4 I aC aj ak ao ah ai h1 ad ap aa aq ab k0 k1 k2;go_upto_region 8 with (go_at_call 95;refine(i' M).mono ?_;rintro O y ⟨rfl,u⟩);obtain⟨F,ay⟩:=i' (av y u);have aG:=t' ay;have U:=m' (i:=0) F;have V:=m' (i:=1) F;have X:=m' (i:=2) F;have Y:=m' (i:=3) F;have Z:=m' (i:=4) F;have ad:∀i,y.frozen? ⟨w.heap.size+1,i,none⟩=false:=fun i=>D' F;simp at U V X Y Z;clear u av F ay M;go_wp2;refine bodyPost_ret (v:= .tuple #[.agg #[.int .u32 0, .int .u64 0, .int .i64 0, .int .i64 0, .int .i64 0], .bool false]) (by simp[results,Tryz.results194,go_sem,U,V,X,Y,Z]) rfl ⟨⟨0,0,0,0,0⟩,?_,fun h=>?_,?_⟩
    ·have:ok=false:=by rw[i' ax,decide_eq_false (show ¬b<=2147483647 by omega)];simp
     rw[this];rfl
    ·have:ok=false:=by rw[i' ax,decide_eq_false (show ¬b<=2147483647 by omega)];simp
     rw[this]at h;cases h
    ·exact(((((i' aG).setCell (p:=⟨w.heap.size+1,0,none⟩) (by simp) _).setCell (p:=⟨w.heap.size+1,1,none⟩) (by simp) _).setCell (p:=⟨w.heap.size+1,2,none⟩) (by simp) _).setCell (p:=⟨w.heap.size+1,3,none⟩) (by simp) _).setCell (p:=⟨w.heap.size+1,4,none⟩) (by simp) _
   ·have az:=fun y f=>t' (ai (.int .i64 b) 1 y h4 rfl f);have J:=t' (And.intro k0 (And.intro k1 k2));have bf:IntKind.i64.wrap (b:Int)=(b:Int):=by rw[IntKind.wrap_i64];omega
    clear h0 h1 I ad aj ak ao ah ai ap aa aq ab k0 k1 k2 aC;go_upto_region 8 with (go_at_call 95;refine(i' M).mono ?_;rintro O y ⟨rfl,u⟩);have ac:=(u.block _ aK).trans h4;have bg:∀i,y.frozen? ⟨r,i,none⟩=false:=fun i=>D' ac;have bh:y.cell? ⟨r,3,none⟩=some (.int .i64 0):=by rw[m' ac];rfl
    have aH:=t' (i' (az y u));clear h4 u ac az M;go_wp2;go_roundw
    case rel=>exact⟨2,by omega,rfl,i' aH,by first|omega|(intro _;exact(i' J).1 (by omega)),by first|omega|(intro _;exact(i' J).2.1 (by omega)),by first|omega|(intro _;exact(i' J).2.2 (by omega))⟩
    case measure=>simp[intOf]
  ·have M:=t' (i' (ao wr h0));by_cases be:(2147483647:Int) < (d:Int)
   ·have av:=fun y f=>ah d y (by omega) f;have ax:=ab;clear h0 h4 I aC aj ak ao ah ai h1 ad ap aa aq ab k0 k1 k2;go_upto_region 8 with (go_at_call 95;refine(i' M).mono ?_;rintro O y ⟨rfl,u⟩);obtain⟨F,ay⟩:=i' (av y u);have aG:=t' ay;have U:=m' (i:=0) F;have V:=m' (i:=1) F;have X:=m' (i:=2) F;have Y:=m' (i:=3) F;have Z:=m' (i:=4) F;have ad:∀i,y.frozen? ⟨w.heap.size+1,i,none⟩=false:=fun i=>D' F;simp at U V X Y Z;clear u av F ay M;go_wp2;refine bodyPost_ret (v:= .tuple #[.agg #[.int .u32 0, .int .u64 0, .int .i64 0, .int .i64 0, .int .i64 0], .bool false]) (by simp[results,Tryz.results194,go_sem,U,V,X,Y,Z]) rfl ⟨⟨0,0,0,0,0⟩,?_,fun h=>?_,?_⟩
    ·have:ok=false:=by rw[i' ax,decide_eq_false (show ¬d<=2147483647 by omega)];simp
     rw[this];rfl
    ·have:ok=false:=by rw[i' ax,decide_eq_false (show ¬d<=2147483647 by omega)];simp
     rw[this]at h;cases h
    ·exact(((((i' aG).setCell (p:=⟨w.heap.size+1,0,none⟩) (by simp) _).setCell (p:=⟨w.heap.size+1,1,none⟩) (by simp) _).setCell (p:=⟨w.heap.size+1,2,none⟩) (by simp) _).setCell (p:=⟨w.heap.size+1,3,none⟩) (by simp) _).setCell (p:=⟨w.heap.size+1,4,none⟩) (by simp) _
   ·have az:=fun y f=>t' (ai (.int .i64 d) 2 y h4 rfl f);have J:=t' (And.intro k0 (And.intro k1 k2));have bf:IntKind.i64.wrap (d:Int)=(d:Int):=by rw[IntKind.wrap_i64];omega
    clear h0 h1 I ad aj ak ao ah ai ap aa aq ab k0 k1 k2 aC;go_upto_region 8 with (go_at_call 95;refine(i' M).mono ?_;rintro O y ⟨rfl,u⟩);have ac:=(u.block _ aK).trans h4;have bg:∀i,y.frozen? ⟨r,i,none⟩=false:=fun i=>D' ac;have bh:y.cell? ⟨r,4,none⟩=some (.int .i64 0):=by rw[m' ac];rfl
    have aH:=t' (i' (az y u));clear h4 u ac az M;go_wp2;go_roundw
    case rel=>exact⟨3,by omega,rfl,i' aH,by first|omega|(intro _;exact(i' J).1 (by omega)),by first|omega|(intro _;exact(i' J).2.1 (by omega)),by first|omega|(intro _;exact(i' J).2.2 (by omega))⟩
    case measure=>simp[intOf]
  ·have aA:=t' h0;have aB:=t' h1;have bi:Hid (wr.heap[r]? =some (.cells #[.int .u32 o, .int .u64 c, .int .i64 a, .int .i64 b, .int .i64 d] 217 (0,0))):=h4;have au:=t' I;have J:=t' (And.intro (k0 (by omega)) (And.intro (k1 (by omega)) (k2 (by omega))));clear h0 h1 h4 I aC ad aj ak ao ah ai k0 k1 k2;go_upto_region 12 with fail;cases aL:Mod.isStamp o with
   |true=>
    refine Q' (by kernel_rfl)
     [fun v _=>v= .agg #[.int .u32 o, .int .u64 c, .int .i64 a, .int .i64 b, .int .i64 d],fun v _=>v= .pointer (some ⟨r,0,none⟩),fun v _=>v= .agg #[.int .u32 o, .int .u64 c],fun v _=>v= .bool true,fun v _=>v= .bool true,
      fun v _=>v= .agg #[.int .u32 o, .int .u64 c, .int .i64 a, .int .i64 b, .int .i64 d],fun v _=>v= .agg (bv T).toArray,fun v _=>v= .agg (bv S).toArray,fun v _=>v= .bool (decide (T=S)),fun v _=>v= .bool (decide (T=S)),fun _ z=>z.heap[w.heap.size+1]? =some (.cells #[.int .u32 o, .int .u64 c, .int .i64 a, .int .i64 b, .int .i64 d] 217 (0,0)),fun v _=>v= .bool (decide (T=S))]
     [[(4,none)],[(4,none)],[(32,some 1)],[(33,some 2)],[(34,some 3)],[(4,none),(35,some 4)],[(36,some 5),(35,some 4)],[(1,none),(35,some 4)],[(37,some 6),(38,some 7),(35,some 4)],[(35,some 4),(39,some 8)],[(2,none),(31,some 0)],[(40,some 9)]] [some 31,some 32,some 33,some 34,some 35,some 36,some 37,some 38,some 39,some 40,none,some 3] [false,false,false,true,false,false,false,false,false,false,false,false,false,false,false,false,false,false,false,false,false,false,false,false,false,false,false,false,false,false,false,true,true,true,true,true,true,true,true,true,true]
     [(10,fun k=>k=w.heap.size+1)]
     (by kernel_rfl) (by kernel_rfl) (by kernel_rfl) (by kernel_rfl) (by kernel_rfl) ?_ ?_ ?_ ?_
    ·repeat' (first|exact J' _|exact Z'|exact ba' _ _|exact trivial|apply And.intro)
    ·repeat' (first|exact trivial|exact .inl rfl|exact .inr (.inr (ak' _ _))|exact .inr (.inr (fun _ _ _ _ _=>trivial))|apply And.intro)
    ·refine⟨?_,?_,?_,?_,?_,?_,?_,?_,?_,?_,?_,?_,trivial⟩;all_goals
      intro a' z f D;have z0:=f.blk (i' aA) (aa' (by intro q G;simp at G;subst G;intro (e:w.heap.size=w.heap.size+1);omega));have z4:=f.blk (i' bi) (aa' (by intro q G;simp at G;subst G;intro (e:r=w.heap.size+1);omega));have br:z.cell? ⟨r,0,none⟩=some (.int .u32 o):=m' (i:=0) z4;have bt:z.cell? ⟨r,1,none⟩=some (.int .u64 c):=m' (i:=1) z4;have bu:z.cell? ⟨r,2,none⟩=some (.int .i64 a):=m' (i:=2) z4;have bw:z.cell? ⟨r,3,none⟩=some (.int .i64 b):=m' (i:=3) z4;have bz:z.cell? ⟨r,4,none⟩=some (.int .i64 d):=m' (i:=4) z4;have bj:=t' z0;clear z0 z4;simp only[I',List.getD_cons_zero,List.getD_cons_succ,Array.getD_eq_getD_getElem?]at D;try simp at D
     iterate 3
      ·clear f;go_simp;exact⟨_,rfl,Far.refl _ _,rfl⟩
     ·clear f;go_simp;refine(i' (ap z)).mono ?_;rintro O bk ⟨rfl,u⟩;exact⟨_,rfl,A' u,by rw[aL];rfl⟩
     ·clear f;go_simp;exact⟨_,rfl,Far.refl _ _,rfl⟩
     ·clear f;have aM:a'.tmps[35]? =some (.bool true):=ey' (by first|exact D|exact D.2|exact D.2.2);go_simp;exact⟨_,rfl,Far.refl _ _,rfl⟩
     ·clear f;have aM:a'.tmps[35]? =some (.bool true):=ey' (by first|exact D|exact D.2|exact D.2.2);go_simp;refine(i' (aa z)).mono ?_;rintro O bk ⟨rfl,u⟩;exact⟨_,rfl,A' u,rfl⟩
     ·clear f;have aM:a'.tmps[35]? =some (.bool true):=ey' (by first|exact D|exact D.2|exact D.2.2);rw[if_pos (by go_simp)];exact co' (.tmp 1) rfl w.heap.size (by simp[Act.eval,D]) 207 S aE (i' bj) ⟨_,rfl,Far.refl _ _,rfl⟩
     ·clear f;have aM:a'.tmps[35]? =some (.bool true):=ey' (by first|exact D|exact D.2|exact D.2.2);go_simp;exact⟨_,rfl,Far.refl _ _,rfl⟩
     ·clear f;go_simp;exact⟨_,rfl,Far.refl _ _,rfl⟩
     ·have aI:=f.blk (i' aB) (by rintro⟨q,G,g1,g2,bA⟩;simp at G;subst G;exact g1 rfl);clear f;rw[if_pos (by rfl)];refine wp_store_row 217 (.tmp 2) (.tmp 31) rfl (w.heap.size+1) #[.int .u32 o, .int .u64 c, .int .i64 a, .int .i64 b, .int .i64 d] (by simp[Act.eval,D]) (by simp[Act.eval,D]) 217 _ aI (by rw[fW'];rfl) (by simp) (by rw[Array.all_eq_true_iff_forall_mem];intro bB hu;simp at hu;rcases hu with rfl|rfl|rfl|rfl|rfl <;> rfl) ?_;exact⟨_,rfl,ac' (.head _) (aR' _ _ _),setRow_heap _ _ _ _ _ _ aI⟩
     ·clear f;go_simp;exact⟨_,rfl,Far.refl _ _,rfl⟩
    ·intro H z hF aD;have Q:=aD.2.2.2.2.2.2.2.2.2.2.1;have aR:=aD.2.2.2.2.2.2.2.2.2.2.2.1;have U:z.cell? ⟨w.heap.size+1,0,none⟩=some (.int .u32 o):=m' (i:=0) Q;have V:z.cell? ⟨w.heap.size+1,1,none⟩=some (.int .u64 c):=m' (i:=1) Q;have X:z.cell? ⟨w.heap.size+1,2,none⟩=some (.int .i64 a):=m' (i:=2) Q;have Y:z.cell? ⟨w.heap.size+1,3,none⟩=some (.int .i64 b):=m' (i:=3) Q;have Z:z.cell? ⟨w.heap.size+1,4,none⟩=some (.int .i64 d):=m' (i:=4) Q;have aS:=t' ((i' au).trans (hF.below (i' au).size (fun k bd h=>by obtain⟨q,G,h⟩:=h;simp at G;subst G;have h:k=w.heap.size+1:=h;omega)));clear aD hF Q;simp only[R',aR];generalize H 31=bC;generalize H 32=bD;generalize H 33=bE;generalize H 34=bF;generalize H 35=bG;generalize H 36=bH;generalize H 37=bI;generalize H 38=bJ;generalize H 39=bK;generalize H 40=bL;go_simp;go_wp2;refine bodyPost_ret (v:= .tuple #[.agg #[.int .u32 o, .int .u64 c, .int .i64 a, .int .i64 b, .int .i64 d], .bool (decide (T=S))]) (by simp[results,Tryz.results194,go_sem,U,V,X,Y,Z]) rfl ⟨⟨o,c,a,b,d⟩,?_,fun _=>rfl,i' aS⟩;have:ok=decide (T=S):=by rw[i' ab,aL,decide_eq_true (i' J).1,decide_eq_true (i' J).2.1,decide_eq_true (i' J).2.2];rfl
     rw[this];rfl
   |false=>
    refine Q' (by kernel_rfl)
     [fun v _=>v= .agg #[.int .u32 o, .int .u64 c, .int .i64 a, .int .i64 b, .int .i64 d],fun v _=>v= .pointer (some ⟨r,0,none⟩),fun v _=>v= .agg #[.int .u32 o, .int .u64 c],fun v _=>v= .bool false,fun v _=>v= .bool false,
      fun _ _=>True,fun _ _=>True,fun _ _=>True,fun _ _=>True,fun v _=>v= .bool false,fun _ z=>z.heap[w.heap.size+1]? =some (.cells #[.int .u32 o, .int .u64 c, .int .i64 a, .int .i64 b, .int .i64 d] 217 (0,0)),fun v _=>v= .bool (false)]
     [[(4,none)],[(4,none)],[(32,some 1)],[(33,some 2)],[(34,some 3)],[(4,none),(35,some 4)],[(36,some 5),(35,some 4)],[(1,none),(35,some 4)],[(37,some 6),(38,some 7),(35,some 4)],[(35,some 4),(39,some 8)],[(2,none),(31,some 0)],[(40,some 9)]] [some 31,some 32,some 33,some 34,some 35,some 36,some 37,some 38,some 39,some 40,none,some 3] [false,false,false,true,false,false,false,false,false,false,false,false,false,false,false,false,false,false,false,false,false,false,false,false,false,false,false,false,false,false,false,true,true,true,true,true,true,true,true,true,true]
     [(10,fun k=>k=w.heap.size+1)]
     (by kernel_rfl) (by kernel_rfl) (by kernel_rfl) (by kernel_rfl) (by kernel_rfl) ?_ ?_ ?_ ?_
    ·repeat' (first|exact J' _|exact Z'|exact ba' _ _|exact trivial|apply And.intro)
    ·repeat' (first|exact trivial|exact .inl rfl|exact .inr (.inr (ak' _ _))|exact .inr (.inr (fun _ _ _ _ _=>trivial))|apply And.intro)
    ·refine⟨?_,?_,?_,?_,?_,?_,?_,?_,?_,?_,?_,?_,trivial⟩;all_goals
      intro a' z f D;have z0:=f.blk (i' aA) (aa' (by intro q G;simp at G;subst G;intro (e:w.heap.size=w.heap.size+1);omega));have z4:=f.blk (i' bi) (aa' (by intro q G;simp at G;subst G;intro (e:r=w.heap.size+1);omega));have br:z.cell? ⟨r,0,none⟩=some (.int .u32 o):=m' (i:=0) z4;have bt:z.cell? ⟨r,1,none⟩=some (.int .u64 c):=m' (i:=1) z4;have bu:z.cell? ⟨r,2,none⟩=some (.int .i64 a):=m' (i:=2) z4;have bw:z.cell? ⟨r,3,none⟩=some (.int .i64 b):=m' (i:=3) z4;have bz:z.cell? ⟨r,4,none⟩=some (.int .i64 d):=m' (i:=4) z4;have bj:=t' z0;clear z0 z4;simp only[I',List.getD_cons_zero,List.getD_cons_succ,Array.getD_eq_getD_getElem?]at D;try simp at D
     iterate 3
      ·clear f;go_simp;exact⟨_,rfl,Far.refl _ _,rfl⟩
     ·clear f;go_simp;refine(i' (ap z)).mono ?_;rintro O bk ⟨rfl,u⟩;exact⟨_,rfl,A' u,by rw[aL];rfl⟩
     ·clear f;go_simp;exact⟨_,rfl,Far.refl _ _,rfl⟩
     iterate 4
      ·clear f;have aM:a'.tmps[35]? =some (.bool false):=ey' (by first|exact D|exact D.2|exact D.2.2);go_simp;try trivial
     ·clear f;go_simp;exact⟨_,rfl,Far.refl _ _,rfl⟩
     ·have aI:=f.blk (i' aB) (by rintro⟨q,G,g1,g2,bA⟩;simp at G;subst G;exact g1 rfl);clear f;rw[if_pos (by rfl)];refine wp_store_row 217 (.tmp 2) (.tmp 31) rfl (w.heap.size+1) #[.int .u32 o, .int .u64 c, .int .i64 a, .int .i64 b, .int .i64 d] (by simp[Act.eval,D]) (by simp[Act.eval,D]) 217 _ aI (by rw[fW'];rfl) (by simp) (by rw[Array.all_eq_true_iff_forall_mem];intro bB hu;simp at hu;rcases hu with rfl|rfl|rfl|rfl|rfl <;> rfl) ?_;exact⟨_,rfl,ac' (.head _) (aR' _ _ _),setRow_heap _ _ _ _ _ _ aI⟩
     ·clear f;go_simp;exact⟨_,rfl,Far.refl _ _,rfl⟩
    ·intro H z hF aD;have Q:=aD.2.2.2.2.2.2.2.2.2.2.1;have aR:=aD.2.2.2.2.2.2.2.2.2.2.2.1;have U:z.cell? ⟨w.heap.size+1,0,none⟩=some (.int .u32 o):=m' (i:=0) Q;have V:z.cell? ⟨w.heap.size+1,1,none⟩=some (.int .u64 c):=m' (i:=1) Q;have X:z.cell? ⟨w.heap.size+1,2,none⟩=some (.int .i64 a):=m' (i:=2) Q;have Y:z.cell? ⟨w.heap.size+1,3,none⟩=some (.int .i64 b):=m' (i:=3) Q;have Z:z.cell? ⟨w.heap.size+1,4,none⟩=some (.int .i64 d):=m' (i:=4) Q;have aS:=t' ((i' au).trans (hF.below (i' au).size (fun k bd h=>by obtain⟨q,G,h⟩:=h;simp at G;subst G;have h:k=w.heap.size+1:=h;omega)));clear aD hF Q;simp only[R',aR];generalize H 31=bC;generalize H 32=bD;generalize H 33=bE;generalize H 34=bF;generalize H 35=bG;generalize H 36=bH;generalize H 37=bI;generalize H 38=bJ;generalize H 39=bK;generalize H 40=bL;go_simp;go_wp2;refine bodyPost_ret (v:= .tuple #[.agg #[.int .u32 o, .int .u64 c, .int .i64 a, .int .i64 b, .int .i64 d], .bool (false)]) (by simp[results,Tryz.results194,go_sem,U,V,X,Y,Z]) rfl ⟨⟨o,c,a,b,d⟩,?_,fun _=>rfl,i' aS⟩;have:ok=false:=by rw[i' ab,aL,decide_eq_true (i' J).1,decide_eq_true (i' J).2.1,decide_eq_true (i' J).2.2];rfl
     rw[this];rfl
end Go.Proofs.YtamafdcnbcoegaaGreat
