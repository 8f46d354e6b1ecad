/-
  Part 18 of a proof: K28, K29, K30, K31, K32, K33, Q6, OP14, N1, N2, SF1.
-/
import Derived.Test.YtamafdcnbcoegaaGreatSf17
set_option maxRecDepth 100000
set_option maxHeartbeats 40000000
namespace Go.Proofs.YtamafdcnbcoegaaGreat
open Go.RowKit
theorem gp' {w:World} {p:Nat} {R:World->World->Prop} (ao:∀ {f v r:World},R v r->Below f.heap.size f v->R f r) (O k e s q:Int) (b:ByteArray) (z D s' F:Int) (G:ByteArray) (Z:Wire.proper z D s' F G=true)
  (aa:∀y,Below w.heap.size w y->Calls Tryz.prog 109 #[y' p, .agg #[.int .i64 k, .int .i64 e, .int .i64 s, .int .i64 q, .string b]] y fun H r=>H= .returned (.tuple #[.agg #[.int .i64 z, .int .i64 D, .int .i64 s', .int .i64 F, .string G], .int .i64 0])/\R y r):
  Calls Tryz.prog 98 #[.agg #[.int .i64 O, .func (.func 109) #[y' p] #[]], .agg #[.int .i64 k, .int .i64 e, .int .i64 s, .int .i64 q, .string b]] w fun H r=>
   ∃lv fs x,H= .returned (.tuple #[lv, .int .i64 0])/\R w x/\Below x.heap.size x r/\L' x.heap.size r lv fs [⟨(Wire.bytes z D s' F G.data.toList).toArray⟩] (fun _=>False):=by
 have ap:=fun y=>t' (du' z D s' F G y Z);have ab:=fun y aq=>t' (aa y aq);have ac:=t' (bS' w (.cells #[.int .i64 O, .func (.func 109) #[y' p] #[]] 179) (.cells #[.int .i64 k, .int .i64 e, .int .i64 s, .int .i64 q, .string b] 41));clear aa Z;unfold y' at *;go_enter Tryz.func98,Tryz.ntmps98;go_upto_region 1 with fail;refine C' (fun x=>x.heap[w.heap.size]? =some (.cells #[.int .i64 O, .func (.func 109) #[.pointer (some ⟨p,0,none⟩)] #[]] 179 (0,0))/\x.heap[w.heap.size+1]? =some (.cells #[.int .i64 k, .int .i64 e, .int .i64 s, .int .i64 q, .string b] 41 (0,0))/\Below w.heap.size w x) (i' ac) ?_;clear ac;rintro x ⟨h0,h1,Q⟩;have ad:=m' (i:=1) h0;have z0:=m' (i:=0) h1;have I:=m' (i:=1) h1;have J:=m' (i:=2) h1;have z3:=m' (i:=3) h1;have z4:=m' (i:=4) h1;simp at ad z0 I J z3 z4;have ah:=t' (i' (ab x Q));have au:=t' Q;clear h0 h1 Q ab;go_upto_region 2 with (go_at_call 109;refine(i' ah).mono ?_;rintro H y ⟨rfl,ai⟩);obtain⟨U,V⟩:∃U,U=y.heap.size:=⟨_,rfl⟩;have av:=t' V;rw[<-V];have ax:=t' (ao ai (i' au));clear ai V;refine C' (fun f=>f.heap[U]? =some (.cells #[.int .i64 z, .int .i64 D, .int .i64 s', .int .i64 F, .string G] 41 (0,0))/\Below y.heap.size y f) ?_ ?_
 ·rw[i' av];exact⟨heap_alloc_new _ _,(Below.refl _ _).alloc (Nat.le_refl _) _⟩
 clear ad z0 I J z3 z4 ah;rintro f ⟨u,aj⟩;have z0:=m' (i:=0) u;have I:=m' (i:=1) u;have J:=m' (i:=2) u;have z3:=m' (i:=3) u;have z4:=m' (i:=4) u;simp at z0 I J z3 z4;have ak:=t' aj;clear u aj;go_wp2_with (go_at_call 92;refine(i' (ap _)).mono ?_;rintro H v ⟨aB,rfl,M,X⟩;obtain⟨aC,cap,rfl,_⟩:=M.shape;replace M:=t' M;replace X:=t' X);go_ret2;have ay:=(i' X);have az:=i' M;have aA:=(i' ak).size;have Y:Below y.heap.size y v:=(i' ak).trans (ay.mono aA);refine⟨_,_,y,rfl,i' ax,Y.alloc Y.size _,er' (World.ownsRow.alloc (az.mono (by omega)) _) Y.size (heap_alloc_new _ _)⟩
theorem gq' {w:World} {p:Nat} {R:World->World->Prop} (ao:∀ {f v r:World},R v r->Below f.heap.size f v->R f r) (O k e s q:Int) (b:ByteArray) (z D s' F:Int) (G:ByteArray) (Z:Wire.proper z D s' F G=true)
  (aa:∀y,Below w.heap.size w y->Calls Tryz.prog 110 #[y' p, .agg #[.int .i64 k, .int .i64 e, .int .i64 s, .int .i64 q, .string b]] y fun H r=>H= .returned (.tuple #[.agg #[.int .i64 z, .int .i64 D, .int .i64 s', .int .i64 F, .string G], .int .i64 0])/\R y r):
  Calls Tryz.prog 98 #[.agg #[.int .i64 O, .func (.func 110) #[y' p] #[]], .agg #[.int .i64 k, .int .i64 e, .int .i64 s, .int .i64 q, .string b]] w fun H r=>
   ∃lv fs x,H= .returned (.tuple #[lv, .int .i64 0])/\R w x/\Below x.heap.size x r/\L' x.heap.size r lv fs [⟨(Wire.bytes z D s' F G.data.toList).toArray⟩] (fun _=>False):=by
 have ap:=fun y=>t' (du' z D s' F G y Z);have ab:=fun y aq=>t' (aa y aq);have ac:=t' (bS' w (.cells #[.int .i64 O, .func (.func 110) #[y' p] #[]] 179) (.cells #[.int .i64 k, .int .i64 e, .int .i64 s, .int .i64 q, .string b] 41));clear aa Z;unfold y' at *;go_enter Tryz.func98,Tryz.ntmps98;go_upto_region 1 with fail;refine C' (fun x=>x.heap[w.heap.size]? =some (.cells #[.int .i64 O, .func (.func 110) #[.pointer (some ⟨p,0,none⟩)] #[]] 179 (0,0))/\x.heap[w.heap.size+1]? =some (.cells #[.int .i64 k, .int .i64 e, .int .i64 s, .int .i64 q, .string b] 41 (0,0))/\Below w.heap.size w x) (i' ac) ?_;clear ac;rintro x ⟨h0,h1,Q⟩;have ad:=m' (i:=1) h0;have z0:=m' (i:=0) h1;have I:=m' (i:=1) h1;have J:=m' (i:=2) h1;have z3:=m' (i:=3) h1;have z4:=m' (i:=4) h1;simp at ad z0 I J z3 z4;have ah:=t' (i' (ab x Q));have au:=t' Q;clear h0 h1 Q ab;go_upto_region 2 with (go_at_call 110;refine(i' ah).mono ?_;rintro H y ⟨rfl,ai⟩);obtain⟨U,V⟩:∃U,U=y.heap.size:=⟨_,rfl⟩;have av:=t' V;rw[<-V];have ax:=t' (ao ai (i' au));clear ai V;refine C' (fun f=>f.heap[U]? =some (.cells #[.int .i64 z, .int .i64 D, .int .i64 s', .int .i64 F, .string G] 41 (0,0))/\Below y.heap.size y f) ?_ ?_
 ·rw[i' av];exact⟨heap_alloc_new _ _,(Below.refl _ _).alloc (Nat.le_refl _) _⟩
 clear ad z0 I J z3 z4 ah;rintro f ⟨u,aj⟩;have z0:=m' (i:=0) u;have I:=m' (i:=1) u;have J:=m' (i:=2) u;have z3:=m' (i:=3) u;have z4:=m' (i:=4) u;simp at z0 I J z3 z4;have ak:=t' aj;clear u aj;go_wp2_with (go_at_call 92;refine(i' (ap _)).mono ?_;rintro H v ⟨aB,rfl,M,X⟩;obtain⟨aC,cap,rfl,_⟩:=M.shape;replace M:=t' M;replace X:=t' X);go_ret2;have ay:=(i' X);have az:=i' M;have aA:=(i' ak).size;have Y:Below y.heap.size y v:=(i' ak).trans (ay.mono aA);refine⟨_,_,y,rfl,i' ax,Y.alloc Y.size _,er' (World.ownsRow.alloc (az.mono (by omega)) _) Y.size (heap_alloc_new _ _)⟩
theorem le' {w:World} {p:Nat} {R:World->World->Prop} (J:∀ {u v f:World},R v f->Below u.heap.size u v->R u f) (z k e s q:Int) (b:ByteArray)
  (G:∀y,Below w.heap.size w y->Calls Tryz.prog 109 #[y' p, .agg #[.int .i64 k, .int .i64 e, .int .i64 s, .int .i64 q, .string b]] y fun r f=>r= .returned (.tuple #[.agg zFr, .int .i64 4])/\R y f):
  Calls Tryz.prog 98 #[.agg #[.int .i64 z, .func (.func 109) #[y' p] #[]], .agg #[.int .i64 k, .int .i64 e, .int .i64 s, .int .i64 q, .string b]] w fun r f=>
   ∃lv fs x,r= .returned (.tuple #[lv, .int .i64 4])/\R w x/\Below x.heap.size x f/\L' x.heap.size f lv fs [] (fun _=>False):=by
 have D:=fun y M=>t' (G y M);have H:=t' (bS' w (.cells #[.int .i64 z, .func (.func 109) #[y' p] #[]] 179) (.cells #[.int .i64 k, .int .i64 e, .int .i64 s, .int .i64 q, .string b] 41));clear G;unfold zFr at D;unfold y' at *;go_enter Tryz.func98,Tryz.ntmps98;go_upto_region 1 with fail;refine C' (fun x=>x.heap[w.heap.size]? =some (.cells #[.int .i64 z, .func (.func 109) #[.pointer (some ⟨p,0,none⟩)] #[]] 179 (0,0))/\x.heap[w.heap.size+1]? =some (.cells #[.int .i64 k, .int .i64 e, .int .i64 s, .int .i64 q, .string b] 41 (0,0))/\Below w.heap.size w x) (i' H) ?_;clear H;rintro x ⟨h0,h1,F⟩;have O:=m' (i:=1) h0;have z0:=m' (i:=0) h1;have Q:=m' (i:=1) h1;have U:=m' (i:=2) h1;have z3:=m' (i:=3) h1;have z4:=m' (i:=4) h1;simp at O z0 Q U z3 z4;have V:=t' (i' (D x F));have X:=t' F;clear h0 h1 F D;go_wp2_with (go_at_call 109;refine(i' V).mono ?_;rintro r y ⟨rfl,I⟩;have Y:=t' (J I (i' X));clear I);go_ret2;exact⟨_,_,y,rfl,i' Y,(Below.refl _ _).alloc (Nat.le_refl _) _,bC' _ _⟩
theorem lf' {w:World} {p:Nat} {R:World->World->Prop} (J:∀ {u v f:World},R v f->Below u.heap.size u v->R u f) (z k e s q:Int) (b:ByteArray)
  (G:∀y,Below w.heap.size w y->Calls Tryz.prog 110 #[y' p, .agg #[.int .i64 k, .int .i64 e, .int .i64 s, .int .i64 q, .string b]] y fun r f=>r= .returned (.tuple #[.agg zFr, .int .i64 4])/\R y f):
  Calls Tryz.prog 98 #[.agg #[.int .i64 z, .func (.func 110) #[y' p] #[]], .agg #[.int .i64 k, .int .i64 e, .int .i64 s, .int .i64 q, .string b]] w fun r f=>
   ∃lv fs x,r= .returned (.tuple #[lv, .int .i64 4])/\R w x/\Below x.heap.size x f/\L' x.heap.size f lv fs [] (fun _=>False):=by
 have D:=fun y M=>t' (G y M);have H:=t' (bS' w (.cells #[.int .i64 z, .func (.func 110) #[y' p] #[]] 179) (.cells #[.int .i64 k, .int .i64 e, .int .i64 s, .int .i64 q, .string b] 41));clear G;unfold zFr at D;unfold y' at *;go_enter Tryz.func98,Tryz.ntmps98;go_upto_region 1 with fail;refine C' (fun x=>x.heap[w.heap.size]? =some (.cells #[.int .i64 z, .func (.func 110) #[.pointer (some ⟨p,0,none⟩)] #[]] 179 (0,0))/\x.heap[w.heap.size+1]? =some (.cells #[.int .i64 k, .int .i64 e, .int .i64 s, .int .i64 q, .string b] 41 (0,0))/\Below w.heap.size w x) (i' H) ?_;clear H;rintro x ⟨h0,h1,F⟩;have O:=m' (i:=1) h0;have z0:=m' (i:=0) h1;have Q:=m' (i:=1) h1;have U:=m' (i:=2) h1;have z3:=m' (i:=3) h1;have z4:=m' (i:=4) h1;simp at O z0 Q U z3 z4;have V:=t' (i' (D x F));have X:=t' F;clear h0 h1 F D;go_wp2_with (go_at_call 110;refine(i' V).mono ?_;rintro r y ⟨rfl,I⟩;have Y:=t' (J I (i' X));clear I);go_ret2;exact⟨_,_,y,rfl,i' Y,(Below.refl _ _).alloc (Nat.le_refl _) _,bC' _ _⟩
def DlR (R:World->World->Prop) (w f:World) (r:Int) (u:Ending) (z:List ByteArray):Prop:=
 ∃lv fs x,u= .returned (.tuple #[lv, .int .i64 r])/\R w x/\Below x.heap.size x f/\L' x.heap.size f lv fs z (fun _=>False)
theorem dL' {w:World} {p:Nat} {a:Mod.Sk} {R:World->World->Prop} {X:Int} {sh:Nat->List (Nat×Value)} {st:Mod.Stv} {c:Sv} (z:aL' w p a.epoch a.logs sh st c) (hs:st.dk.dead=false) (bs:Value) (ay:∀ {G v f:World},R v f->Below G.heap.size G v->R G f) (k e s q:Int) (b:ByteArray) (az:k=1) {Y:List ByteArray}
  (Z:∀y,Below w.heap.size w y->Calls Tryz.prog 54 #[bs] y fun D f=>D= .returned (.tuple #[.agg #[.int .i64 k, .int .i64 e, .int .i64 s, .int .i64 q, .string b], .int .i64 0])/\Below y.heap.size y f)
  (aa:∀y,Below w.heap.size w y->Calls Tryz.prog 98 #[.agg #[.int .i64 1, .func (.func 109) #[y' p] #[]], .agg #[.int .i64 k, .int .i64 e, .int .i64 s, .int .i64 q, .string b]] y fun D f=>
   ∃lv fs x,D= .returned (.tuple #[lv, .int .i64 X])/\R y x/\Below x.heap.size x f/\L' x.heap.size f lv fs Y (fun _=>False)):
  Calls Tryz.prog 56 #[y' p,bs] w fun D f=>DlR R w f X D Y:=by
 have c0:w.cell? ⟨p,0,none⟩=some (y' c.s):=by rw[m' z.ks.blk,z.ks.a0]
 have M:=ab' z.stt;rw[hs]at M;have ab:=t' M;have ac:=t' (Z w (Below.refl _ _));subst az;have aA:=fun y aB=>t' (aa y aB);clear aa;obtain⟨F,cap,ad,aM,aN,ah⟩:=z.rl.shape;obtain⟨g,o,rfl,I⟩:=ah (by omega);have r0:w.cell? ⟨g,o,none⟩=some (.int .i64 1):=by have:=I 0 (by omega);simpa[aY']using this
 have ai:w.cell? ⟨g,o+1,none⟩=some (.func (.func 109) #[y' p] #[]):=by have:=I 1 (by omega);simpa[aY']using this
 have aj:w.cell? ⟨g,o+2,none⟩=some (.int .i64 3):=by have:=I 2 (by omega);simpa[aY']using this
 have ak:w.cell? ⟨g,o+2+1,none⟩=some (.func (.func 110) #[y' p] #[]):=by have:=I 3 (by omega);simpa[aY']using this
 have aC:w.cell? ⟨p,11,none⟩=some (.slice (some ⟨g,o,none⟩) 2 cap):=by rw[m' z.ks.blk,z.ks.ar,ad]
 have J:g < w.heap.size:=World.block_lt_of_cell? _ _ r0;have aD:=lt_of_block z.ks.blk;clear z M Z I ah ad;unfold y' at *;go_enter Tryz.func56,Tryz.ntmps56;go_upto_region 4 with (first|(go_at_call 86;refine(i' ab).mono ?_;rintro D y ⟨rfl,aE⟩;obtain rfl:w=y:=aE.symm)|(go_at_call 54;refine(i' ac).mono ?_;rintro D y ⟨rfl,r⟩));obtain⟨H,O⟩:∃H,H=y.heap.size:=⟨_,rfl⟩;have aO:w.heap.size<=H:=by have:=r.size;omega
 have ao:=t' O;have Q:=t' r;rw[<-O];clear O r;refine C' (fun G=>G.heap[H]? =some (.cells #[.int .i64 1, .int .i64 e, .int .i64 s, .int .i64 q, .string b] 41 (0,0))/\Below w.heap.size w G) ?_ ?_
 ·rw[i' ao];exact⟨heap_alloc_new _ _,(i' Q).alloc (i' Q).size _⟩
 clear ao Q c0 ac ab;rintro G ⟨u,U⟩;have aF:=(U.cell (p:=⟨p,11,none⟩) aD).trans aC;have ap:=t' u;have aq:=t' U;clear u U;go_wp2;go_loopw[9,28] (fun _ i wr=>∃j:Nat,j<=0/\i= .int .i64 j/\wr.heap[H]? =some (.cells #[.int .i64 1, .int .i64 e, .int .i64 s, .int .i64 q, .string b] 41 (0,0))/\Below w.heap.size w wr) (fun _ i _=>3 - (intOf i).toNat)
 case atStart=>exact⟨0,by omega,rfl,i' ap,i' aq⟩
 case round=>
  obtain⟨j,hj,rfl,u,r⟩:=hrel;clear ap aq aF;have s0:=(r.cell (p:=⟨g,o,none⟩) J).trans r0;have s1:=(r.cell (p:=⟨g,o+1,none⟩) J).trans ai;have aP:=(r.cell (p:=⟨g,o+2,none⟩) J).trans aj;have aQ:=(r.cell (p:=⟨g,o+2+1,none⟩) J).trans ak;have aG:=m' (i:=0) u;have aH:=m' (i:=1) u;have aI:=m' (i:=2) u;have aJ:=m' (i:=3) u;have aK:=m' (i:=4) u;simp at aG aH aI aJ aK;have aL:=lt_of_block u;have aR:=t' u;have au:=t' r;have av:∀V,(wr.alloc V).heap[H]? =some (.cells #[.int .i64 1, .int .i64 e, .int .i64 s, .int .i64 q, .string b] 41 (0,0))/\Below w.heap.size w (wr.alloc V):=fun V=>⟨(hao _ _ aL).trans u,r.alloc r.size _⟩;have ax:=t' av;clear u r av r0 ai aj ak;have aS:∀ (F:Addr) (m:Mode) (f:World),(store F (.func (.func 109) #[.pointer (some ⟨p,0,none⟩)] #[]) m).run Tryz.prog f=stored Tryz.prog f F (.func (.func 109) #[.pointer (some ⟨p,0,none⟩)] #[]) m:=fun F m f=>run_store _ _ _ _ _ rfl;have aT:∀ (F:Addr) (m:Mode) (f:World),(store F (.func (.func 110) #[.pointer (some ⟨p,0,none⟩)] #[]) m).run Tryz.prog f=stored Tryz.prog f F (.func (.func 110) #[.pointer (some ⟨p,0,none⟩)] #[]) m:=fun F m f=>run_store _ _ _ _ _ rfl;obtain rfl:j=0:=by omega
  focus
   go_wp2_with (go_at_call 98;refine(i' (aA _ (by first|exact((i' ax) _).2|exact(i' au)))).mono ?_;rintro D f ⟨lv,fs,x,rfl,k1,k2,k3⟩;replace k1:=t' k1;replace k2:=t' k2;replace k3:=t' k3)
   go_ret2
   exact⟨lv,fs,x,rfl,ay (i' k1) (by first|exact((i' ax) _).2|exact(i' au)),i' k2,i' k3⟩
theorem dM' {w:World} {p:Nat} {a:Mod.Sk} {R:World->World->Prop} {Y:Int} {sh:Nat->List (Nat×Value)} {st:Mod.Stv} {c:Sv} (z:aL' w p a.epoch a.logs sh st c) (hs:st.dk.dead=false) (bs:Value) (ay:∀ {G v f:World},R v f->Below G.heap.size G v->R G f) (k e s q:Int) (b:ByteArray) (az:k=3) {Z:List ByteArray}
  (aa:∀y,Below w.heap.size w y->Calls Tryz.prog 54 #[bs] y fun D f=>D= .returned (.tuple #[.agg #[.int .i64 k, .int .i64 e, .int .i64 s, .int .i64 q, .string b], .int .i64 0])/\Below y.heap.size y f)
  (ab:∀y,Below w.heap.size w y->Calls Tryz.prog 98 #[.agg #[.int .i64 3, .func (.func 110) #[y' p] #[]], .agg #[.int .i64 k, .int .i64 e, .int .i64 s, .int .i64 q, .string b]] y fun D f=>
   ∃lv fs x,D= .returned (.tuple #[lv, .int .i64 Y])/\R y x/\Below x.heap.size x f/\L' x.heap.size f lv fs Z (fun _=>False)):
  Calls Tryz.prog 56 #[y' p,bs] w fun D f=>DlR R w f Y D Z:=by
 have c0:w.cell? ⟨p,0,none⟩=some (y' c.s):=by rw[m' z.ks.blk,z.ks.a0]
 have M:=ab' z.stt;rw[hs]at M;have ac:=t' M;have ad:=t' (aa w (Below.refl _ _));subst az;have aA:=fun y aB=>t' (ab y aB);clear ab;obtain⟨F,cap,ah,aM,aN,ai⟩:=z.rl.shape;obtain⟨g,o,rfl,I⟩:=ai (by omega);have r0:w.cell? ⟨g,o,none⟩=some (.int .i64 1):=by have:=I 0 (by omega);simpa[aY']using this
 have aj:w.cell? ⟨g,o+1,none⟩=some (.func (.func 109) #[y' p] #[]):=by have:=I 1 (by omega);simpa[aY']using this
 have ak:w.cell? ⟨g,o+2,none⟩=some (.int .i64 3):=by have:=I 2 (by omega);simpa[aY']using this
 have ao:w.cell? ⟨g,o+2+1,none⟩=some (.func (.func 110) #[y' p] #[]):=by have:=I 3 (by omega);simpa[aY']using this
 have aC:w.cell? ⟨p,11,none⟩=some (.slice (some ⟨g,o,none⟩) 2 cap):=by rw[m' z.ks.blk,z.ks.ar,ah]
 have J:g < w.heap.size:=World.block_lt_of_cell? _ _ r0;have aD:=lt_of_block z.ks.blk;clear z M aa I ai ah;unfold y' at *;go_enter Tryz.func56,Tryz.ntmps56;go_upto_region 4 with (first|(go_at_call 86;refine(i' ac).mono ?_;rintro D y ⟨rfl,aE⟩;obtain rfl:w=y:=aE.symm)|(go_at_call 54;refine(i' ad).mono ?_;rintro D y ⟨rfl,r⟩));obtain⟨H,O⟩:∃H,H=y.heap.size:=⟨_,rfl⟩;have aO:w.heap.size<=H:=by have:=r.size;omega
 have ap:=t' O;have Q:=t' r;rw[<-O];clear O r;refine C' (fun G=>G.heap[H]? =some (.cells #[.int .i64 3, .int .i64 e, .int .i64 s, .int .i64 q, .string b] 41 (0,0))/\Below w.heap.size w G) ?_ ?_
 ·rw[i' ap];exact⟨heap_alloc_new _ _,(i' Q).alloc (i' Q).size _⟩
 clear ap Q c0 ad ac;rintro G ⟨u,U⟩;have aF:=(U.cell (p:=⟨p,11,none⟩) aD).trans aC;have aq:=t' u;have au:=t' U;clear u U;go_wp2;go_loopw[9,28] (fun _ i wr=>∃j:Nat,j<=1/\i= .int .i64 j/\wr.heap[H]? =some (.cells #[.int .i64 3, .int .i64 e, .int .i64 s, .int .i64 q, .string b] 41 (0,0))/\Below w.heap.size w wr) (fun _ i _=>3 - (intOf i).toNat)
 case atStart=>exact⟨0,by omega,rfl,i' aq,i' au⟩
 case round=>
  obtain⟨j,hj,rfl,u,r⟩:=hrel;clear aq au aF;have s0:=(r.cell (p:=⟨g,o,none⟩) J).trans r0;have s1:=(r.cell (p:=⟨g,o+1,none⟩) J).trans aj;have aP:=(r.cell (p:=⟨g,o+2,none⟩) J).trans ak;have aQ:=(r.cell (p:=⟨g,o+2+1,none⟩) J).trans ao;have aG:=m' (i:=0) u;have aH:=m' (i:=1) u;have aI:=m' (i:=2) u;have aJ:=m' (i:=3) u;have aK:=m' (i:=4) u;simp at aG aH aI aJ aK;have aL:=lt_of_block u;have aR:=t' u;have av:=t' r;have ax:∀V,(wr.alloc V).heap[H]? =some (.cells #[.int .i64 3, .int .i64 e, .int .i64 s, .int .i64 q, .string b] 41 (0,0))/\Below w.heap.size w (wr.alloc V):=fun V=>⟨(hao _ _ aL).trans u,r.alloc r.size _⟩;have X:=t' ax;clear u r ax r0 aj ak ao;have aS:∀ (F:Addr) (m:Mode) (f:World),(store F (.func (.func 109) #[.pointer (some ⟨p,0,none⟩)] #[]) m).run Tryz.prog f=stored Tryz.prog f F (.func (.func 109) #[.pointer (some ⟨p,0,none⟩)] #[]) m:=fun F m f=>run_store _ _ _ _ _ rfl;have aT:∀ (F:Addr) (m:Mode) (f:World),(store F (.func (.func 110) #[.pointer (some ⟨p,0,none⟩)] #[]) m).run Tryz.prog f=stored Tryz.prog f F (.func (.func 110) #[.pointer (some ⟨p,0,none⟩)] #[]) m:=fun F m f=>run_store _ _ _ _ _ rfl;rcases(show j=0\/j=1 by omega)with rfl|rfl;focus
   go_wp2;exact⟨⟨1,by omega,by go_num,(i' X) _⟩,by simp[intOf]⟩
  focus
   go_wp2_with (go_at_call 98;refine(i' (aA _ (by first|exact((i' X) _).2|exact(i' av)))).mono ?_;rintro D f ⟨lv,fs,x,rfl,k1,k2,k3⟩;replace k1:=t' k1;replace k2:=t' k2;replace k3:=t' k3)
   go_ret2
   exact⟨lv,fs,x,rfl,ay (i' k1) (by first|exact((i' X) _).2|exact(i' av)),i' k2,i' k3⟩
theorem lh' {w:World} {p:Nat} {a:Mod.Sk} {R:World->World->Prop} {sh:Nat->List (Nat×Value)} {st:Mod.Stv} {c:Sv} (z:aL' w p a.epoch a.logs sh st c) (hs:st.dk.dead=false) (X:R w w) (bs:Value) (k e s q:Int) (b:ByteArray) (aH:¬k=1) (aI:¬k=3)
  (Y:∀y,Below w.heap.size w y->Calls Tryz.prog 54 #[bs] y fun G u=>G= .returned (.tuple #[.agg #[.int .i64 k, .int .i64 e, .int .i64 s, .int .i64 q, .string b], .int .i64 0])/\Below y.heap.size y u):
  Calls Tryz.prog 56 #[y' p,bs] w fun G u=>DlR R w u 0 G []:=by
 have c0:w.cell? ⟨p,0,none⟩=some (y' c.s):=by rw[m' z.ks.blk,z.ks.a0]
 have J:=ab' z.stt;rw[hs]at J;have Z:=t' J;have aa:=t' (Y w (Below.refl _ _));have aJ:((1:Int) ==k)=false:=by simp;omega
 have aK:((3:Int) ==k)=false:=by simp;omega
 obtain⟨D,cap,ab,aL,aM,ac⟩:=z.rl.shape;obtain⟨g,o,rfl,H⟩:=ac (by omega);have r0:w.cell? ⟨g,o,none⟩=some (.int .i64 1):=by have:=H 0 (by omega);simpa[aY']using this
 have ad:w.cell? ⟨g,o+1,none⟩=some (.func (.func 109) #[y' p] #[]):=by have:=H 1 (by omega);simpa[aY']using this
 have ah:w.cell? ⟨g,o+2,none⟩=some (.int .i64 3):=by have:=H 2 (by omega);simpa[aY']using this
 have ai:w.cell? ⟨g,o+2+1,none⟩=some (.func (.func 110) #[y' p] #[]):=by have:=H 3 (by omega);simpa[aY']using this
 have au:w.cell? ⟨p,11,none⟩=some (.slice (some ⟨g,o,none⟩) 2 cap):=by rw[m' z.ks.blk,z.ks.ar,ab]
 have I:g < w.heap.size:=World.block_lt_of_cell? _ _ r0;have av:=lt_of_block z.ks.blk;have ax:=t' X;clear z J Y H ac ab X;unfold y' at *;go_enter Tryz.func56,Tryz.ntmps56;go_upto_region 4 with (first|(go_at_call 86;refine(i' Z).mono ?_;rintro G y ⟨rfl,ay⟩;obtain rfl:w=y:=ay.symm)|(go_at_call 54;refine(i' aa).mono ?_;rintro G y ⟨rfl,f⟩));obtain⟨F,M⟩:∃F,F=y.heap.size:=⟨_,rfl⟩;have aN:w.heap.size<=F:=by have:=f.size;omega
 have aj:=t' M;have O:=t' f;rw[<-M];clear M f;refine C' (fun Q=>Q.heap[F]? =some (.cells #[.int .i64 k, .int .i64 e, .int .i64 s, .int .i64 q, .string b] 41 (0,0))/\Below w.heap.size w Q) ?_ ?_
 ·rw[i' aj];exact⟨heap_alloc_new _ _,(i' O).alloc (i' O).size _⟩
 clear aj O c0 aa Z;rintro Q ⟨r,U⟩;have az:=(U.cell (p:=⟨p,11,none⟩) av).trans au;have ak:=t' r;have ao:=t' U;clear r U;go_wp2;go_loopw[9,28] (fun _ i wr=>∃j:Nat,j<=2/\i= .int .i64 j/\wr.heap[F]? =some (.cells #[.int .i64 k, .int .i64 e, .int .i64 s, .int .i64 q, .string b] 41 (0,0))/\Below w.heap.size w wr) (fun _ i _=>3 - (intOf i).toNat)
 case atStart=>exact⟨0,by omega,rfl,i' ak,i' ao⟩
 case round=>
  obtain⟨j,hj,rfl,r,f⟩:=hrel;clear ak ao az;have s0:=(f.cell (p:=⟨g,o,none⟩) I).trans r0;have s1:=(f.cell (p:=⟨g,o+1,none⟩) I).trans ad;have aO:=(f.cell (p:=⟨g,o+2,none⟩) I).trans ah;have aP:=(f.cell (p:=⟨g,o+2+1,none⟩) I).trans ai;have aA:=m' (i:=0) r;have aB:=m' (i:=1) r;have aC:=m' (i:=2) r;have aD:=m' (i:=3) r;have aE:=m' (i:=4) r;simp at aA aB aC aD aE;have aF:=lt_of_block r;have aQ:=t' r;have aG:=t' f;have ap:∀V,(wr.alloc V).heap[F]? =some (.cells #[.int .i64 k, .int .i64 e, .int .i64 s, .int .i64 q, .string b] 41 (0,0))/\Below w.heap.size w (wr.alloc V):=fun V=>⟨(hao _ _ aF).trans r,f.alloc f.size _⟩;have aq:=t' ap;clear r f ap r0 ad ah ai;have aR:∀ (D:Addr) (m:Mode) (u:World),(store D (.func (.func 109) #[.pointer (some ⟨p,0,none⟩)] #[]) m).run Tryz.prog u=stored Tryz.prog u D (.func (.func 109) #[.pointer (some ⟨p,0,none⟩)] #[]) m:=fun D m u=>run_store _ _ _ _ _ rfl;have aS:∀ (D:Addr) (m:Mode) (u:World),(store D (.func (.func 110) #[.pointer (some ⟨p,0,none⟩)] #[]) m).run Tryz.prog u=stored Tryz.prog u D (.func (.func 110) #[.pointer (some ⟨p,0,none⟩)] #[]) m:=fun D m u=>run_store _ _ _ _ _ rfl;rcases(show j=0\/j=1\/j=2 by omega)with rfl|rfl|rfl;focus
   go_wp2;exact⟨⟨1,by omega,by go_num,(i' aq) _⟩,by simp[intOf]⟩
  focus
   go_wp2;exact⟨⟨2,by omega,by go_num,(i' aq) _⟩,by simp[intOf]⟩
  focus
   go_wp2;go_ret2;exact⟨_,_,w,rfl,i' ax,i' aG,bC' _ _⟩
def rg' (a:Mod.Sk) (k e:Int) (s q:Nat) (b:ByteArray):Nat:=
 if k=1 then(if e < a.epoch then 0 else hiW a e.toNat)else if k=3 then(if e=a.epoch then(a.commits 3 a.epoch s q b).length else 0)else 0
def skW (a:Mod.Sk) (l:List UInt8):Nat:=if Wire.reads l=true then rg' a (Wire.kindOf l) (Wire.epochOf l) (Wire.streamOf l).toNat (Wire.seqOf l).toNat (Wire.bodyOf l)else 0
def nL' (a:Mod.Sk) (k:Int) (s q:Nat) (b:ByteArray) (n:Nat):Nat->List ByteArray:=if k=3 then(grown a s ((a.commits 3 a.epoch s q b).take (n - 1))).logs else a.logs
def ic' (a:Mod.Sk) (l:List UInt8) (n:Nat):Nat->List ByteArray:=nL' a (Wire.kindOf l) (Wire.streamOf l).toNat (Wire.seqOf l).toNat (Wire.bodyOf l) n
theorem id' {a:Mod.Sk} {l:List UInt8} (f:Wire.reads l=true) {k:Int} {e s q:Nat} {b:ByteArray} (h1:Wire.kindOf l=k) (h2:Wire.epochOf l=e) (h3:Wire.streamOf l=s) (h4:Wire.seqOf l=q) (h5:Wire.bodyOf l=b):
  skW a l=rg' a k e s q b/\∀n,ic' a l n=nL' a k s q b n:=by
 unfold skW ic';rw[f,h1,h2,h3,h4,h5];exact⟨rfl,fun _=>rfl⟩
theorem nM' {a:Mod.Sk} {l:List UInt8} (f:Wire.reads l=false):skW a l=0:=by
 unfold skW;rw[f];rfl
theorem wn' {a:Mod.Sk} {l:List UInt8} {n:Nat} (f:Wire.reads l=false) (r:1<=n/\n<=skW a l):False:=by
 rw[nM' f]at r;omega
theorem li' {op ct n:Nat} {w:World} {p:Nat} {a:Mod.Sk} {sh:Nat->List (Nat×Value)} {st:Mod.Stv} {c:Sv} (D:aL' w p a.epoch a.logs sh st c) (hs:Alv op ct n st a.epoch a.logs) (Z:ct+1000 < 18446744073709551616) (aa:ay' a) (ak:bh' a) (M:da' a.held sh) (bs:Value) (l:List UInt8) (ab:Y' w bs l) (F:n=0\/skW a l < n):
  Calls Tryz.prog 56 #[y' p,bs] w fun O u=>DlR (fun f x=>bF' op (ct+skW a l) (n - skW a l) f x p (av' a l).2.1 c) w u (av' a l).1 O (av' a l).2.2:=by
 cases I:Wire.reads l
 ·rw[gc' I,nM' I];refine(iP' D hs.dead bs l ab I).mono ?_;rintro O u ⟨rfl,r⟩;exact⟨_,[],w,rfl,cS' D hs M,r,bC' _ _⟩
 ·obtain⟨k,e,s,q,b,h1,h2,h3,h4,h5,g1,g2,ao,ap⟩:=bH' I;rw[eQ' I h1 h2 h3 h4 h5];rw[(id' I h1 h2 h3 h4 h5).1]at F ⊢;have Q:∀y,Below w.heap.size w y->Calls Tryz.prog 54 #[bs] y fun O u=>O= .returned (.tuple #[.agg #[.int .i64 k, .int .i64 e, .int .i64 s, .int .i64 q, .string b], .int .i64 0])/\Below y.heap.size y u:=fun y z=>by have:=cr' bs l y (ab.below z);rw[I]at this;simp only[if_true,jV',h1,h2,h3,h4,h5]at this;exact this
  have U:=fun y (z:Below w.heap.size w y)=>D.far (A' (E:=fun _=>False) z) (fun _ _ h=>h);have aq:=D.ks.loglen (i:=0) (by omega);have au:=D.ks.loglen (i:=1) (by omega);have av:=D.ks.loglen (i:=2) (by omega);have ax:=D.ks.ep;have H:∀ {ac ad:Nat} {ah:Mod.Sk} {f v u:World},bF' op ac ad v u p ah c->Below f.heap.size f v->bF' op ac ad f u p ah c:=fun h r=>bF'.behind h r;unfold bW';unfold rg' at F ⊢;by_cases k1:k=1
  ·simp only[if_pos k1]at F ⊢;by_cases ai:(e:Int) < a.epoch
   ·simp only[if_pos ai]at F ⊢;refine dL' (R:=(fun f x=>bF' op (ct+0) (n - 0) f x p a c)) D hs.dead bs (fun h r=>H h r) k e s q b k1 Q (fun y z=>?_);subst k1;refine gp' (w:=y) (R:=(fun f x=>bF' op (ct+0) (n - 0) f x p a c)) (fun h r=>H h r) 1 1 e s q b 5 a.epoch 0 0 ⟨#[]⟩ (hB' _ ax) (fun u J=>?_);have G:Below w.heap.size w u:=z.trans (J.mono z.size);refine(jC' (U u G) e s q b (by omega)).mono ?_;rintro O f ⟨rfl,r⟩;exact⟨rfl,(cS' (U u G) hs M).below r⟩
   ·simp only[if_neg ai]at F ⊢;have V:(e:Int).toNat=e:=by omega
    rw[V]at F ⊢;refine dL' (R:=(fun f x=>bF' op (ct+hiW a e) (n - hiW a e) f x p (aX' a e) c)) D hs.dead bs (fun h r=>H h r) k e s q b k1 Q (fun y z=>?_);subst k1;refine gp' (w:=y) (R:=(fun f x=>bF' op (ct+hiW a e) (n - hiW a e) f x p (aX' a e) c)) (fun h r=>H h r) 1 1 e s q b 2 e 0 0 (jA' a) (qs' g1 aq au av) (fun u J=>?_);have G:Below w.heap.size w u:=z.trans (J.mono z.size);exact lc' (U u G) hs Z M e s q b (by omega) g1 F
  ·simp only[if_neg k1]at F ⊢;by_cases k3:k=3
   ·simp only[if_pos k3]at F ⊢;by_cases X:(e:Int)=a.epoch
    ·simp only[if_pos X]at F ⊢;have az:e=a.epoch:=by omega
     subst k3;rw[X]at Q ⊢;refine dM' (R:=(fun f x=>bF' op (ct+(a.commits 3 a.epoch s q b).length) (n - (a.commits 3 a.epoch s q b).length) f x p (aq' a 3 a.epoch s q b) c)) D hs.dead bs (fun h r=>H h r) 3 a.epoch s q b rfl Q (fun y z=>?_);have Y:=hs' aa 3 a.epoch s q b g2 (by omega);refine gq' (w:=y) (R:=(fun f x=>bF' op (ct+(a.commits 3 a.epoch s q b).length) (n - (a.commits 3 a.epoch s q b).length) f x p (aq' a 3 a.epoch s q b) c)) (fun h r=>H h r) 3 3 a.epoch s q b 4 a.epoch s _ _ ?_ (fun u J=>?_)
     ·have ay:(aq' a 3 a.epoch s q b).epoch=a.epoch:=by
       unfold aq';split
       ·exact dl' _ _ _ _
       ·rfl
      have aj:ay' (aq' a 3 a.epoch s q b):=by unfold bW' at Y;rw[if_neg (by omega),if_pos rfl,if_pos rfl]at Y;exact Y
      have aA:=ix' (a:=aq' a 3 a.epoch s q b) g2;have aB:=aj.room;have:=ke' (a:=aq' a 3 a.epoch s q b) (s:=s) (up:=((aq' a 3 a.epoch s q b).logs s).length) aj.ep g2 (by omega);rw[ay]at this;exact this
     ·have G:Below w.heap.size w u:=z.trans (J.mono z.size);exact mf' (U u G) hs Z aa ak M s q g2 ao b ap F
    ·simp only[if_neg X]at F ⊢;have V:max (e:Int).toNat a.epoch=max e a.epoch:=rfl;rw[V];subst k3;refine dM' (R:=(fun f x=>bF' op (ct+0) (n - 0) f x p a c)) D hs.dead bs (fun h r=>H h r) 3 e s q b rfl Q (fun y z=>?_);refine gq' (w:=y) (R:=(fun f x=>bF' op (ct+0) (n - 0) f x p a c)) (fun h r=>H h r) 3 3 e s q b 5 (max e a.epoch:Nat) 0 0 ⟨#[]⟩ (hB' _ (by omega)) (fun u J=>?_);have G:Below w.heap.size w u:=z.trans (J.mono z.size);refine(iF' (U u G) e s q b (by omega)).mono ?_;rintro O f ⟨rfl,r⟩;exact⟨rfl,(cS' (U u G) hs M).below r⟩
   ·simp only[if_neg k3]at F ⊢;exact lh' (R:=fun f x=>bF' op (ct+0) (n - 0) f x p a c) D hs.dead (cS' D hs M) bs k e s q b k1 k3 Q
theorem jJ' {op ct n:Nat} {w:World} {p:Nat} {a:Mod.Sk} {sh:Nat->List (Nat×Value)} {st:Mod.Stv} {c:Sv} (H:aL' w p a.epoch a.logs sh st c) (hs:Alv op ct n st a.epoch a.logs) (U:ct+1000 < 18446744073709551616) (aa:ay' a) (ab:bh' a) (V:da' a.held sh) (bs:Value) (l:List UInt8) (ac:Y' w bs l) (f:1<=n/\n<=skW a l):
  Calls Tryz.prog 56 #[y' p,bs] w fun I u=>DlR (fun r x=>br' op r x p a.epoch (ic' a l n) c) w u 4 I []:=by
 cases F:Wire.reads l
 ·exact(wn' F f).elim
 ·obtain⟨k,e,s,q,b,h1,h2,h3,h4,h5,g1,g2,ad,ah⟩:=bH' F;rw[(id' F h1 h2 h3 h4 h5).1]at f;rw[(id' F h1 h2 h3 h4 h5).2];have J:∀y,Below w.heap.size w y->Calls Tryz.prog 54 #[bs] y fun I u=>I= .returned (.tuple #[.agg #[.int .i64 k, .int .i64 e, .int .i64 s, .int .i64 q, .string b], .int .i64 0])/\Below y.heap.size y u:=fun y z=>by have:=cr' bs l y (ac.below z);rw[F]at this;simp only[if_true,jV',h1,h2,h3,h4,h5]at this;exact this
  have X:=fun y (z:Below w.heap.size w y)=>H.far (A' (E:=fun _=>False) z) (fun _ _ h=>h);have G:∀ {Y:Nat} {lg:Nat->List ByteArray} {r v u:World},br' op v u p Y lg c->Below r.heap.size r v->br' op r u p Y lg c:=fun h D=>br'.behind h D;unfold nL';unfold rg' at f;by_cases k1:k=1
  ·rw[if_neg (by omega)];rw[if_pos k1]at f;by_cases Z:(e:Int) < a.epoch
   ·rw[if_pos Z]at f;omega
   ·rw[if_neg Z]at f;have ai:(e:Int).toNat=e:=by omega
    rw[ai]at f;refine dL' (R:=(fun r x=>br' op r x p a.epoch a.logs c)) H hs.dead bs (fun h D=>G h D) k e s q b k1 J (fun y z=>?_);subst k1;refine le' (w:=y) (R:=(fun r x=>br' op r x p a.epoch a.logs c)) (fun h D=>G h D) 1 1 e s q b (fun u M=>?_);have O:Below w.heap.size w u:=z.trans (M.mono z.size);exact jI' (X u O) hs U V e s q b (by omega) g1 f
  ·rw[if_neg k1]at f;by_cases k3:k=3
   ·rw[if_pos k3]at f ⊢;by_cases Q:(e:Int)=a.epoch
    ·rw[if_pos Q]at f;subst k3;rw[Q]at J;refine dM' (R:=(fun r x=>br' op r x p a.epoch (grown a s ((a.commits 3 a.epoch s q b).take (n - 1))).logs c)) H hs.dead bs (fun h D=>G h D) 3 a.epoch s q b rfl J (fun y z=>?_);refine lf' (w:=y) (R:=(fun r x=>br' op r x p a.epoch (grown a s ((a.commits 3 a.epoch s q b).take (n - 1))).logs c)) (fun h D=>G h D) 3 3 a.epoch s q b (fun u M=>?_);have O:Below w.heap.size w u:=z.trans (M.mono z.size);exact ld' (X u O) hs U aa ab V s q g2 ad b ah f
    ·rw[if_neg Q]at f;omega
   ·rw[if_neg k3]at f;omega
theorem nN' {w:World} {p e:Nat} {logs:Nat->List ByteArray} {sh:Nat->List (Nat×Value)} {st:Mod.Stv} {c:Sv} (f:aL' w p e logs sh st c) (hs:st.dk.dead=false) (i:Int):
  Calls Tryz.prog 60 #[y' p, .int .i64 i] w fun u w'=>
   ∃lv,u= .returned lv/\w'.ownsRow w.heap.size 9 1 lv (if 0<=i/\i < 3 then logs i.toNat else []).length (aK' (if 0<=i/\i < 3 then logs i.toNat else []))/\Below w.heap.size w w':=by
 have c0:w.cell? ⟨p,0,none⟩=some (y' c.s):=by rw[m' f.ks.blk,f.ks.a0]
 have F:=ab' f.stt;rw[hs]at F;have Y:=t' F;by_cases h:0<=i/\i < 3
 ·rw[if_pos h];obtain⟨n,rfl⟩:=Int.eq_ofNat_of_zero_le h.1;obtain⟨h0,h3⟩:=h;have G:n < 3:=by omega
  obtain⟨ac,cap,Q,Z⟩:=f.ks.logc G;have H:=f.ks.lgs n G;rw[Q]at H;have U:=t' (lR' H (by have:=f.ks.loglen G;omega));have z:Wire.isStr (n:Int)=true:=by simp[Wire.isStr];omega
  have r:=bc' (n:Int) w;rw[z]at r;have I:=t' r;have V:((n:Int)).toNat=n:=by omega
  rw[V];obtain⟨m,J⟩:∃m,m=(logs n).length:=⟨_,rfl⟩;obtain⟨xs,X⟩:∃xs,xs=aK' (logs n):=⟨_,rfl⟩;rw[<-J,<-X]at U ⊢;rw[<-J]at Z;clear f F H Q r z V J X;unfold y' at *;go_enter Tryz.func60,Tryz.ntmps60;go_wp2_with (first|(go_at_call 87;refine(i' I).mono ?_;rintro u y ⟨rfl,D⟩;obtain rfl:w=y:=D.symm)|(go_at_call 86;refine(i' Y).mono ?_;rintro u y ⟨rfl,D⟩;obtain rfl:w=y:=D.symm)|(go_at_call 100;refine(i' U).mono ?_;rintro u y ⟨aa,rfl,M,O⟩;replace M:=t' M;replace O:=t' O));go_ret;exact⟨aa,rfl,i' M,i' O⟩
 ·rw[if_neg h];have z:Wire.isStr i=false:=by
   cases ab:Wire.isStr i
   ·rfl
   ·simp[Wire.isStr]at ab;omega
  have r:=bc' i w;rw[z]at r;have I:=t' r;clear f F r z h;unfold y' at *;go_enter Tryz.func60,Tryz.ntmps60;go_wp2_with (go_at_call 87;refine(i' I).mono ?_;rintro u y ⟨rfl,D⟩;obtain rfl:w=y:=D.symm);go_ret;exact⟨_,rfl,World.ownsRow_nil _ _ _ _,Below.refl _ _⟩
theorem iR' {w:World} {p e:Nat} {logs:Nat->List ByteArray} {sh:Nat->List (Nat×Value)} {st:Mod.Stv} {c:Sv} (f:aL' w p e logs sh st c) (hs:st.dk.dead=true) (bs:Value):
  Calls Tryz.prog 56 #[y' p,bs] w fun u w'=>u= .returned (.tuple #[.slice none 0 0, .int .i64 3])/\w'=w:=by
 have c0:w.cell? ⟨p,0,none⟩=some (y' c.s):=by rw[m' f.ks.blk,f.ks.a0]
 have r:=ab' f.stt;rw[hs]at r;have z:=t' r;clear f r;unfold y' at *;go_enter Tryz.func56,Tryz.ntmps56;go_wp2_with (go_at_call 86;refine(i' z).mono ?_;rintro u y ⟨rfl,D⟩;obtain rfl:w=y:=D.symm);go_ret2;exact⟨rfl,rfl⟩
theorem pK' {w:World} {p e:Nat} {logs:Nat->List ByteArray} {sh:Nat->List (Nat×Value)} {st:Mod.Stv} {c:Sv} (f:aL' w p e logs sh st c) (n:Int) (u:n<=9223372036854775807):
  Calls Tryz.prog 62 #[y' p, .int .i64 n] w fun r w'=>r= .returned (.tuple #[])/\aL' w' p e logs sh {st with dk:={st.dk with armed:=n.toNat}} c/\Far (fun k=>k=c.dp) w w':=by
 have c0:w.cell? ⟨p,0,none⟩=some (y' c.s):=by rw[m' f.ks.blk,f.ks.a0]
 have z:=t' (hZ' f.stt n u);have D:=t' f;clear f;unfold y' at *;go_enter Tryz.func62,Tryz.ntmps62;go_wp2_with (go_at_call 101;refine(i' z).mono ?_;rintro r y ⟨rfl,k1,k2⟩;replace k1:=t' k1;replace k2:=t' k2);have f:=i' D;exact bodyPost_end (results_none rfl _ _ _) rfl ⟨rfl,⟨f.ks.far (i' k2) (fun k F e=>f.sep k F (by rw[e];exact .inr (.inl rfl))),i' k1,f.rl.far (i' k2) (fun g G e=>(f.sepr g G).2 (by rw[e];exact .inr (.inl rfl))),f.len⟩,i' k2⟩
def gg' (op ct n:Nat) (w:World) (v:Nat) (a:Mod.Sk) (f:Nat->Prop):Prop:=
 ∃p sh st c,w.heap[v]? =some (.cells #[y' p] 93 (0,0))/\aL' w p a.epoch a.logs sh st c/\Alv op ct n st a.epoch a.logs/\da' a.held sh/\bh' a/\f=fun k=>k=v\/PkU p c k
def nO' (op:Nat) (w:World) (v:Nat) (e:Nat) (logs:Nat->List ByteArray) (f:Nat->Prop):Prop:=
 ∃p sh st c,w.heap[v]? =some (.cells #[y' p] 93 (0,0))/\aL' w p e logs sh st c/\Ded op st e logs/\f=fun k=>k=v\/PkU p c k
section
variable {op ct n:Nat} {w w':World} {v:Nat} {a:Mod.Sk} {U:Nat->Prop} {e:Nat} {lg:Nat->List ByteArray}
theorem rR' (h:gg' op ct n w v a U):∀k,U k->k < w.heap.size:=by
 obtain⟨p,sh,st,c,f,r,_,_,_,rfl⟩:=h;rintro k (rfl|u)
 ·exact lt_of_block f
 ·exact r.lt k u
theorem pL' {E:Nat->Prop} (h:gg' op ct n w v a U) (f:Far E w w') (r:∀k,U k->¬E k):gg' op ct n w' v a U:=by
 obtain⟨p,sh,st,c,u,z,h1,h2,h3,rfl⟩:=h;exact⟨p,sh,st,c,f.blk u (r v (.inl rfl)),z.far f (fun k D=>r k (.inr D)),h1,h2,h3,rfl⟩
theorem vd' (h:nO' op w v e lg U):∀k,U k->k < w.heap.size:=by
 obtain⟨p,sh,st,c,f,r,_,rfl⟩:=h;rintro k (rfl|u)
 ·exact lt_of_block f
 ·exact r.lt k u
theorem uh' {E:Nat->Prop} (h:nO' op w v e lg U) (f:Far E w w') (r:∀k,U k->¬E k):nO' op w' v e lg U:=by
 obtain⟨p,sh,st,c,u,z,h1,rfl⟩:=h;exact⟨p,sh,st,c,f.blk u (r v (.inl rfl)),z.far f (fun k D=>r k (.inr D)),h1,rfl⟩
theorem ie' (bs:Value) (l:List UInt8) (h:gg' op ct n w v a U) (J:ct+1000 < 18446744073709551616) (ac:ay' a) (M:Y' w bs l) (O:n=0\/skW a l < n):
  Calls Tryz.prog 27 #[y' v,bs] w fun Q w'=>
   ∃lv fs U',Q= .returned (.tuple #[lv, .int .i64 (av' a l).1])/\L' w.heap.size w' lv fs (av' a l).2.2 U'/\gg' op (ct+skW a l) (n - skW a l) w' v (av' a l).2.1 U'/\Far U w w'/\∀k,U' k->U k\/w.heap.size<=k:=by
 obtain⟨p,sh,st,c,f,z,hs,ad,V,rfl⟩:=h;have c0:w.cell? ⟨v,0,none⟩=some (y' p):=m' (i:=0) f;have r:=t' (li' z hs J ac V ad bs l M O);have u:=oR' V l;obtain⟨X,D⟩:∃X,X=(av' a l).2.1:=⟨_,rfl⟩;obtain⟨Y,Z⟩:∃Y,Y=(av' a l).1:=⟨_,rfl⟩;obtain⟨aa,ab⟩:∃aa,aa=(av' a l).2.2:=⟨_,rfl⟩;rw[<-D,<-Z,<-ab]at r ⊢;rw[<-D]at u;generalize ct+skW a l=aq at r ⊢;generalize n - skW a l=au at r ⊢;have ah:=qV' z f;have ai:=t' (And.intro f u);clear z f u D Z ab M O hs J;unfold y' at c0 r;show Calls Tryz.prog _ #[.pointer (some ⟨v,0,none⟩),bs] w _;go_enter Tryz.func27,Tryz.ntmps27;go_wp2_with (go_at_call 56;refine(i' r).mono ?_;rintro Q y ⟨lv,fs,x,rfl,k1,k2,k3⟩;replace k1:=t' k1;replace k2:=t' k2;replace k3:=t' k3);go_ret2;obtain⟨aj,ak,⟨c2,K,F,N,av,ax⟩,ao,ap⟩:=i' k1;obtain⟨f,u⟩:=i' ai;have G:=F.blk f ah;have H:=i' k2;refine⟨lv,fs,fun k=>k=v\/PkU p c2 k,rfl,(i' k3).up F.size ?_,⟨p,aj,ak,c2,(H.block _ (lt_of_block G)).trans G,K.far (A' (E:=fun _=>False) H) (fun _ _ h=>h),ao,ap,u,rfl⟩,?_,?_⟩
 ·rintro k (rfl|I)
  ·exact lt_of_block G
  ·exact K.lt k I
 ·exact(F.mono (fun k _ h=> .inr h)).trans (A' (E:=fun _=>False) H) (fun _ _ h=>h.elim)
 ·rintro k (rfl|I)
  ·exact .inl (.inl rfl)
  ·exact(N k I).imp .inr id
theorem mg' (bs:Value) (l:List UInt8) (h:gg' op ct n w v a U) (H:ct+1000 < 18446744073709551616) (O:ay' a) (I:Y' w bs l) (J:1<=n/\n<=skW a l):
  Calls Tryz.prog 27 #[y' v,bs] w fun M w'=>
   ∃lv fs U',M= .returned (.tuple #[lv, .int .i64 4])/\L' w.heap.size w' lv fs [] U'/\nO' op w' v a.epoch (ic' a l n) U'/\Far U w w'/\∀k,U' k->U k\/w.heap.size<=k:=by
 obtain⟨p,sh,st,c,f,u,hs,Q,V,rfl⟩:=h;have c0:w.cell? ⟨v,0,none⟩=some (y' p):=m' (i:=0) f;have r:=t' (jJ' u hs H O V Q bs l I J);generalize ic' a l n=lg at r ⊢;generalize X:a.epoch=ep at r ⊢;have Y:=qV' u f;have Z:=t' f;clear u f I J hs H X;unfold y' at c0 r;show Calls Tryz.prog _ #[.pointer (some ⟨v,0,none⟩),bs] w _;go_enter Tryz.func27,Tryz.ntmps27;go_wp2_with (go_at_call 56;refine(i' r).mono ?_;rintro M y ⟨lv,fs,x,rfl,k1,k2,k3⟩;replace k1:=t' k1;replace k2:=t' k2;replace k3:=t' k3);go_ret2;obtain⟨aa,ab,⟨c2,K,z,N,ad,ah⟩,ac⟩:=i' k1;have f:=i' Z;have D:=z.blk f Y;have F:=i' k2;refine⟨lv,fs,fun k=>k=v\/PkU p c2 k,rfl,(i' k3).up z.size ?_,⟨p,aa,ab,c2,(F.block _ (lt_of_block D)).trans D,K.far (A' (E:=fun _=>False) F) (fun _ _ h=>h),ac,rfl⟩,?_,?_⟩
 ·rintro k (rfl|G)
  ·exact lt_of_block D
  ·exact K.lt k G
 ·exact(z.mono (fun k _ h=> .inr h)).trans (A' (E:=fun _=>False) F) (fun _ _ h=>h.elim)
 ·rintro k (rfl|G)
  ·exact .inl (.inl rfl)
  ·exact(N k G).imp .inr id
theorem sR' (bs:Value) (h:nO' op w v e lg U):Calls Tryz.prog 27 #[y' v,bs] w fun f w'=>f= .returned (.tuple #[.slice none 0 0, .int .i64 3])/\w'=w:=by
 obtain⟨p,sh,st,c,r,u,hs,rfl⟩:=h;have c0:w.cell? ⟨v,0,none⟩=some (y' p):=m' (i:=0) r;have z:=t' (iR' u hs.dead bs);clear u r;unfold y' at c0 z;show Calls Tryz.prog _ #[.pointer (some ⟨v,0,none⟩),bs] w _;go_enter Tryz.func27,Tryz.ntmps27;go_wp2_with (go_at_call 56;refine(i' z).mono ?_;rintro f y ⟨rfl,rfl⟩);go_ret2;exact⟨rfl,rfl⟩
theorem ve' (h:gg' op ct n w v a U):Calls Tryz.prog 42 #[y' v] w fun f w'=>f= .returned (.int .i64 a.epoch)/\w'=w:=by
 obtain⟨p,sh,st,c,r,u,hs,D,F,rfl⟩:=h;have c0:w.cell? ⟨v,0,none⟩=some (y' p):=m' (i:=0) r;have z:=t' (lQ' u);clear u r;unfold y' at *;go_enter Tryz.func42,Tryz.ntmps42;go_wp2_with (go_at_call 67;refine(i' z).mono ?_;rintro f y ⟨rfl,rfl⟩);go_ret;exact⟨rfl,rfl⟩
theorem vx' (i:Int) (h:gg' op ct n w v a U):Calls Tryz.prog 32 #[y' v, .int .i64 i] w fun f w'=>
   ∃lv,f= .returned lv/\w'.ownsRow w.heap.size 9 1 lv (dJ' a i).length (aK' (dJ' a i))/\Below w.heap.size w w':=by
 obtain⟨p,sh,st,c,r,u,hs,F,G,rfl⟩:=h;have c0:w.cell? ⟨v,0,none⟩=some (y' p):=m' (i:=0) r;have z:=t' (nN' u hs.dead i);unfold dJ';obtain⟨xs,D⟩:∃xs,xs=if 0<=i/\i < 3 then a.logs i.toNat else []:=⟨_,rfl⟩
 rw[<-D]at z ⊢;clear u r D;unfold y' at *;go_enter Tryz.func32,Tryz.ntmps32;go_wp2_with (go_at_call 60;refine(i' z).mono ?_;rintro f y ⟨lv,rfl,k1,k2⟩;replace k1:=t' k1;replace k2:=t' k2);go_ret;exact⟨lv,rfl,i' k1,i' k2⟩
theorem rS' {p:Nat} {sh:Nat->List (Nat×Value)} {st:Mod.Stv} {c:Sv} (f:w.heap[v]? =some (.cells #[y' p] 93 (0,0))) (r:aL' w p e lg sh st c) (m:Int) (u:m<=9223372036854775807):
  Calls Tryz.prog 35 #[y' v, .int .i64 m] w fun z w'=>z= .returned (.tuple #[])/\w'.heap[v]? =some (.cells #[y' p] 93 (0,0))/\aL' w' p e lg sh {st with dk:={st.dk with armed:=m.toNat}} c/\Far (fun k=>k=v\/PkU p c k) w w':=by
 have c0:w.cell? ⟨v,0,none⟩=some (y' p):=m' (i:=0) f;have F:=t' (pK' r m u);have G:=qV' r f;have H:=t' f;clear r f u;unfold y' at *;go_enter Tryz.func35,Tryz.ntmps35;go_wp2_with (go_at_call 62;refine(i' F).mono ?_;rintro z y ⟨rfl,k1,k2⟩;replace k1:=t' k1;replace k2:=t' k2);have D:=i' k2;exact bodyPost_end (results_none rfl _ _ _) rfl ⟨rfl,D.blk (i' H) (fun e=>G (by rw[e];exact .inr (.inl (.inr (.inl rfl))))),i' k1,D.mono (fun k _ e=> .inr (by rw[e];exact .inr (.inl (.inr (.inl rfl)))))⟩
theorem wo' (m:Int) (h:gg' op ct n w v a U) (r:m<=9223372036854775807):Calls Tryz.prog 35 #[y' v, .int .i64 m] w fun f w'=>f= .returned (.tuple #[])/\gg' op ct m.toNat w' v a U/\Far U w w':=by
 obtain⟨p,sh,st,c,u,z,hs,D,F,rfl⟩:=h;refine(rS' u z m r).mono ?_;rintro f y ⟨rfl,k1,k2,k3⟩;exact⟨rfl,⟨p,sh,_,c,k1,k2,⟨hs.dead,rfl,hs.op,hs.ct,hs.dk⟩,D,F,rfl⟩,k3⟩
theorem wp' (m:Int) (h:nO' op w v e lg U) (r:m<=9223372036854775807):Calls Tryz.prog 35 #[y' v, .int .i64 m] w fun f w'=>f= .returned (.tuple #[])/\nO' op w' v e lg U/\Far U w w':=by
 obtain⟨p,sh,st,c,u,z,hs,rfl⟩:=h;refine(rS' u z m r).mono ?_;rintro f y ⟨rfl,k1,k2,k3⟩;exact⟨rfl,⟨p,sh,_,c,k1,k2,⟨hs.dead,hs.op,hs.dk⟩,rfl⟩,k3⟩
theorem wq' (h:gg' op ct n w v a U):∃ (L:List UInt8) (c2 hd:Nat),Mod.SkDisk L op c2 hd a.epoch a.logs/\∀x,Below w.heap.size w x->∀f:Int,
  Calls Tryz.prog 30 #[y' v, .int .u64 f] x fun D y=>∃r,D= .returned r/\as' x.heap.size y r L/\Below x.heap.size x y:=by
 obtain⟨p,sh,st,c,u,F,hs,G,H,rfl⟩:=h;refine⟨st.dk.bytes,st.count,st.head,by rw[<-hs.op];exact hs.dk,fun x z f=>?_⟩;exact mG' ((z.block _ (lt_of_block u)).trans u) (F.far (E:=fun _=>False) (A' z) (fun _ _ e=>e)) f
theorem vy' (h:nO' op w v e lg U):∃ (L:List UInt8) (c2 hd:Nat),Mod.SkDisk L op c2 hd e lg/\∀x,Below w.heap.size w x->∀f:Int,
  Calls Tryz.prog 30 #[y' v, .int .u64 f] x fun D y=>∃r,D= .returned r/\as' x.heap.size y r L/\Below x.heap.size x y:=by
 obtain⟨p,sh,st,c,u,F,hs,rfl⟩:=h;obtain⟨c2,hd,G⟩:=hs.dk;refine⟨st.dk.bytes,c2,hd,by rw[<-hs.op];exact G,fun x z f=>?_⟩;exact mG' ((z.block _ (lt_of_block u)).trans u) (F.far (E:=fun _=>False) (A' z) (fun _ _ e=>e)) f
end
theorem nP' {L:List UInt8} {op ct hd e:Nat} {lg:Nat->List ByteArray} (h:Mod.SkDisk L op ct hd e lg) (u:op<=1073741824):
  ∃ (f:Mod.Hd) (at':Nat) (rs:List Mod.Rc),Mod.openSt L=some (f,at',rs)/\f.o=op/\f.a=e/\f.b=0/\f.d=0/\Mod.skLd rs 0 (fun _=>[])=some lg:=by
 obtain⟨D,at',rs,z,F,G,H,V,I⟩:=Mod.skLoad_some (h.loads u);obtain⟨J,X,Y,Z,aa,M⟩:=h.rcs;obtain⟨c,O⟩:=h.ok.opens u (fun x=>J.getD x Mod.rc0) (fun x Q=>M x Q);have r:=O;rw[z]at r;injection r with r;injection r with U _;exact⟨D,at',rs,z,by rw[U],H.symm,F,G,I⟩
theorem rh' {L:List UInt8} {h:Mod.Hd} {at':Nat} {rs:List Mod.Rc} {lg:Nat->List ByteArray} (f:Mod.openSt L=some (h,at',rs)) (r:h.b=0) (hd:h.d=0) (hl:Mod.skLd rs 0 (fun _=>[])=some lg) (u:L.length=7808):
  Alv (h.o+1) 1 0 (cw' L h at') h.a lg:=
 ⟨rfl,rfl,rfl,Nat.le_refl _,Mod.skDisk_opened (a:={epoch:=h.a,logs:=lg,held:=[]}) f r hd hl u⟩
theorem ri' (e:Nat) (lg:Nat->List ByteArray):bh' {epoch:=e,logs:=lg,held:=[]}:=⟨fun h f=>by simp at f,fun _ s _ b r=>by simp at r⟩
theorem mN' {w:World} (bs:Value) (L:List UInt8) (J:Y' w bs L) (D:L.length=7808) {h:Mod.Hd} {at':Nat} {rs:List Mod.Rc} {lg:Nat->List ByteArray} (F:Mod.openSt L=some (h,at',rs)) (G:h.b=0) (hd0:h.d=0) (hl:Mod.skLd rs 0 (fun _=>[])=some lg):
  Calls Tryz.prog 38 #[bs] w fun r w'=>
   ∃v M,r= .returned (.tuple #[y' v, .int .i64 0])/\gg' (h.o+1) 1 0 w' v {epoch:=h.a,logs:=lg,held:=[]} M/\Below w.heap.size w w'/\∀k,M k->w.heap.size<=k:=by
 have H:Hid (Calls Tryz.prog 65 #[bs] w fun r w'=>∃p c,r= .returned (.tuple #[y' p, .int .i64 0])/\aL' w' p h.a lg (fun _=>[]) (cw' L h at') c/\Below w.heap.size w w'/\∀k,PkU p c k->w.heap.size<=k):=by
  refine(me' w bs L J D F).mono ?_;rintro r y (⟨h1|h1,_⟩|⟨_,_,Q,p,c,u,rfl,k1,k2,k3⟩)
  ·exact absurd ⟨G,hd0⟩ h1
  ·rw[hl]at h1;cases h1
  ·rw[hl]at u;injection u with u;subst u;exact⟨p,c,rfl,k1,k2,k3⟩
 have z:=t' (rh' F G hd0 hl D);clear J F G hd0 hl D;generalize cw' L h at'=st at H z;generalize h.o+1=op1 at z ⊢;generalize h.a=ep at H z ⊢;unfold y' at *;go_enter Tryz.func38,Tryz.ntmps38;go_wp2_with (go_at_call 65;refine(i' H).mono ?_;rintro r y ⟨p,c,rfl,K,f,I⟩;replace K:=t' K;replace f:=t' f;replace I:=t' I);go_ret2;have f:=i' f;refine⟨y.heap.size,_,rfl,⟨p,_,st,c,heap_alloc_new _ _,(i' K).far (A' (E:=fun _=>False) ((Below.refl _ _).alloc (Nat.le_refl _) _)) (fun _ _ h=>h),i' z,tH',ri' _ _,rfl⟩,f.alloc f.size _,?_⟩;rintro k (rfl|O)
 ·exact f.size
 ·exact(i' I) k O
theorem vY' {w:World} (bs:Value) (L:List UInt8) {op c2 hd e:Nat} {lg:Nat->List ByteArray} (u:Y' w bs L) (f:Mod.SkDisk L op c2 hd e lg) (z:op<=1073741824):
  Calls Tryz.prog 38 #[bs] w fun D w'=>
   ∃v r,D= .returned (.tuple #[y' v, .int .i64 0])/\gg' (op+1) 1 0 w' v {epoch:=e,logs:=lg,held:=[]} r/\Below w.heap.size w w'/\∀k,r k->w.heap.size<=k:=by
 obtain⟨O,at',rs,F,G,H,I,J,M⟩:=nP' f z;subst G H;exact mN' bs L u f.ok.len F I J M
theorem js' {w:World} (bs:Value) (r:Y' w bs (List.replicate 7808 0)):
  Calls Tryz.prog 38 #[bs] w fun u w'=>
   ∃v f,u= .returned (.tuple #[y' v, .int .i64 0])/\gg' 1 1 0 w' v {epoch:=0,logs:=fun _=>[],held:=[]} f/\Below w.heap.size w w'/\∀k,f k->w.heap.size<=k:=by
 have z:=Mod.openSt_nought 122 (by omega);refine mN' bs _ r (by rw[List.length_replicate]) z rfl rfl ?_;have:((List.range (122 - 2)).map fun _=>Mod.rc0)=List.replicate 120 Mod.rc0:=by rw[List.map_const'];simp
 rw[this];exact Mod.skLd_zero 120 0 _
theorem nQ' (a:Mod.Sk) {s:Nat} (hs:s < 3) (f:List ByteArray):(bT' a s f).count=a.count+f.length/\(bT' a s f).epoch=a.epoch:=by
 refine⟨?_,rfl⟩;obtain rfl|rfl|rfl:s=0\/s=1\/s=2:=by omega
 all_goals
  simp[bT',grown,Mod.Sk.forget,Mod.Sk.count];omega
theorem mh' (a:Mod.Sk) {s:Nat} (hs:s < 3) (q:Nat) (b:ByteArray):(aq' a 3 a.epoch s q b).count=a.count+(a.commits 3 a.epoch s q b).length/\(aq' a 3 a.epoch s q b).epoch=a.epoch:=by
 unfold aq';split
 ·rename_i h;rw[h];refine⟨?_,dl' _ _ _ _⟩;unfold Mod.Sk.count;rw[jd'];rfl
 ·exact nQ' a hs _
theorem ui' (a:Mod.Sk) (l:List UInt8):a.count+a.epoch+skW a l<=(av' a l).2.1.count+(av' a l).2.1.epoch:=by
 cases f:Wire.reads l
 ·rw[gc' f,nM' f];exact Nat.le_refl _
 ·obtain⟨k,e,s,q,b,h1,h2,h3,h4,h5,g1,g2,D,F⟩:=bH' f;rw[eQ' f h1 h2 h3 h4 h5,(id' f h1 h2 h3 h4 h5).1];unfold bW' rg';by_cases k1:k=1
  ·simp only[if_pos k1];by_cases u:(e:Int) < a.epoch
   ·simp only[if_pos u];exact Nat.le_refl _
   ·simp only[if_neg u];have z:(e:Int).toNat=e:=by omega
    rw[z];have h1:(aX' a e).epoch=e:=rfl;have h2:(aX' a e).count=a.count:=rfl;rw[h1,h2];unfold hiW;split <;> omega
  ·simp only[if_neg k1];by_cases k3:k=3
   ·simp only[if_pos k3];by_cases r:(e:Int)=a.epoch
    ·simp only[if_pos r];subst k3;rw[r];obtain⟨c1,c2⟩:=mh' a g2 q b;rw[c1,c2];omega
    ·simp only[if_neg r];exact Nat.le_refl _
   ·simp only[if_neg k3];exact Nat.le_refl _
def CsY (w:World) (v:Nat) (a:Mod.Sk) (f:Nat->Prop):Prop:=∃ct,gg' 1 ct 0 w v a f/\ct<=1+(a.count+a.epoch)
theorem pM' {w:World} {v:Nat} {a:Mod.Sk} {f:Nat->Prop} (bs:Value) (l:List UInt8) (h:CsY w v a f) (r:ay' a) (D:Y' w bs l):
  Calls Tryz.prog 27 #[y' v,bs] w fun u w'=>
   ∃lv fs U',u= .returned (.tuple #[lv, .int .i64 (av' a l).1])/\L' w.heap.size w' lv fs (av' a l).2.2 U'/\CsY w' v (av' a l).2.1 U'/\Far f w w'/\∀k,U' k->f k\/w.heap.size<=k:=by
 obtain⟨ct,h1,h2⟩:=h;have g1:=r.room;have g2:=r.ep;have I:=ui' a l;refine(ie' bs l h1 (by omega) r D (.inl rfl)).mono ?_;rintro u y ⟨lv,fs,U',rfl,F,z,G,H⟩;rw[Nat.zero_sub]at z;exact⟨lv,fs,U',rfl,F,⟨_,z,by omega⟩,G,H⟩
def uj':hu' where
 At:=CsY
 lt:=fun⟨_,h,_⟩=>rR' h
 far:=fun⟨ct,h,f⟩ hF r=>⟨ct,pL' h hF r,f⟩
 deliver:=pM'
 epoch:=fun⟨_,h,_⟩=>(ve' h).mono fun _ _ ⟨e,u⟩=>⟨e,by rw[u];exact Below.refl _ _⟩
 log:=fun i ⟨_,h,_⟩ _=>vx' i h
 opened:=fun bs z=>(js' bs z).mono fun _ _ ⟨v,D,e,h,F,G⟩=>⟨v,D,e,⟨1,h,by omega⟩,F,G⟩
theorem pN' {N:Nat} {a:Mod.Ag} (f:aH' N a) (u:a.epoch+1<=2147483647):aH' N (Mod.reop a):=by
 refine⟨u,Nat.zero_le _,fun s hs=>?_,fun s hs x r=>?_⟩
 ·have:=f.sum s hs;simp only[Mod.reop,if_pos hs,List.length_map];exact this
 ·simp only[Mod.reop,if_pos hs,List.mem_map]at r;obtain⟨y,z,rfl⟩:=r;exact⟨(f.bod s hs y z).1,Nat.zero_le _⟩
theorem L'.off {B:Nat} {w:World} {lv:Value} {fs:List Value} {f:List ByteArray} {r:Nat->Prop} (h:L' B w lv fs f r):L' B w lv fs f (fun _=>False):=⟨h.len,h.row,h.each,h.apart,fun _ _ e=>e⟩
theorem jt' {a:Mod.Sk} (r:ay' a) (l:List UInt8):ay' (av' a l).2.1:=by
 unfold av';cases z:Wire.reads l
 ·exact r
 ·rw[if_pos rfl];have f:=z;unfold Wire.reads at f;rw[Bool.and_eq_true]at f;have u:=di' f.2;exact hs' r _ _ _ _ _ (by have:=u.2.2.1;omega) u.2.1.2
theorem pO' {N:Nat} {a:Mod.Ag} (f:aH' N a) (l:List UInt8):aH' N (aI' a l).2:=by
 unfold aI';split
 ·exact fx' f _ _ _ _ _
 ·exact f
theorem lj' {N:Nat} {a:Mod.Ag} (f:aH' N a) (i:Int) (s:ByteArray):aH' (N+1) (ai' a i s):=by
 unfold ai';split
 ·rename_i h;exact gi' f _ _ (eC' h).2.1
 ·exact f.mono (Nat.le_succ _)
def eU' (B:Nat) (f:Nat->Prop) (x y:World):Prop:=Far (fun j=>B<=j/\¬f j) x y
theorem eU'.refl (B:Nat) (f:Nat->Prop) (x:World):eU' B f x x:=Far.refl _ _
theorem eU'.trans {B:Nat} {f r:Nat->Prop} {x y u:World} (h:eU' B f x y) (z:eU' B r y u) (D:∀j,j < x.heap.size->f j->r j):eU' B f x u:=
 Far.trans h z (fun j hj e=>⟨e.1,fun g=>e.2 (D j hj g)⟩)
theorem eU'.bel {B:Nat} {f:Nat->Prop} {x y:World} (h:eU' B f x y) (r:B<=x.heap.size):Below B x y:=Far.below h r (fun k u e=>by omega)
structure bU' {top:Nat} (C:dD' top) (D:hu') (B N:Nat) (x:World) (va vs:Nat) (a:Mod.Ag) (k:Mod.Sk) (G:Nat->Prop):Prop where
 all:∃ (U V:Nat->Prop),C.At x va a U/\D.At x vs k V/\(∀j,U j->¬V j)/\(∀j,U j->B<=j)/\(∀j,V j->B<=j)/\(∀j,G j->j < x.heap.size/\¬U j/\¬V j)
 ga:aH' N a
 gk:ay' k
 bx:B<=x.heap.size
section
variable {top:Nat} {C:dD' top} {D:hu'} {B N:Nat} {x y:World} {va vs:Nat} {a:Mod.Ag} {k:Mod.Sk} {G:Nat->Prop}
theorem bU'.far {E:Nat->Prop} (h:bU' C D B N x va vs a k G) (hF:Far E x y) (r:∀j,E j->G j\/j < B):bU' C D B N y va vs a k G:=by
 obtain⟨u,z,h1,h2,h3,h4,h5,f⟩:=h.all;refine⟨⟨u,z,C.far h1 hF (fun j hu e=>?_),D.far h2 hF (fun j hu e=>?_),h3,h4,h5,fun j hj=>⟨Nat.lt_of_lt_of_le (f j hj).1 hF.size,(f j hj).2⟩⟩,h.ga,h.gk,Nat.le_trans h.bx hF.size⟩
 ·rcases r j e with e|e
  ·exact(f j e).2.1 hu
  ·have:=h4 j hu;omega
 ·rcases r j e with e|e
  ·exact(f j e).2.2 hu
  ·have:=h5 j hu;omega
theorem bU'.below (h:bU' C D B N x va vs a k G) (f:Below x.heap.size x y):bU' C D B N y va vs a k G:=h.far (E:=fun _=>False) (A' f) (fun _ e=>e.elim)
theorem bU'.mono {f:Nat->Prop} {r:Nat} (h:bU' C D B N x va vs a k G) (u:∀j,f j->G j) (z:N<=r):bU' C D B r x va vs a k f:=by
 obtain⟨F,H,h1,h2,h3,h4,h5,I⟩:=h.all;exact⟨⟨F,H,h1,h2,h3,h4,h5,fun j hj=>I j (u j hj)⟩,h.ga.mono z,h.gk,h.bx⟩
theorem bU'.more (h:bU' C D B N x va vs a k G) (f:Below x.heap.size x y):bU' C D B N y va vs a k (fun j=>G j\/(x.heap.size<=j/\j < y.heap.size)):=by
 have z:=h.below f;obtain⟨F,H,h1,h2,h3,h4,h5,r⟩:=h.all;have hu:=C.lt h1;have I:=D.lt h2;have u:Far (fun _=>False) x y:=A' f;refine⟨⟨F,H,C.far h1 u (fun _ _ e=>e),D.far h2 u (fun _ _ e=>e),h3,h4,h5,fun j hj=>?_⟩,h.ga,h.gk,z.bx⟩;rcases hj with hj|hj
 ·exact⟨Nat.lt_of_lt_of_le (r j hj).1 f.size,(r j hj).2⟩
 ·exact⟨hj.2,fun e=>by have:=hu j e;omega,fun e=>by have:=I j e;omega⟩
theorem bU'.submit (h:bU' C D B N x va vs a k G) (F:N < top) (i:Int) (s:ByteArray):
  Calls Tryz.prog 21 #[y' va, .int .i64 i, .string s] x fun u y=>u= .returned (.int .i64 (a.refuses i s.size))/\bU' C D B (N+1) y va vs (ai' a i s) k G/\eU' B G x y:=by
 obtain⟨J,H,h1,h2,h3,h4,h5,r⟩:=h.all;have I:=D.lt h2;refine(C.submit i s h1 h.ga F).mono ?_;rintro u y ⟨U',rfl,k1,k2,k3⟩;have z:=k2.size;have hu:=C.lt k1;refine⟨rfl,⟨⟨U',H,k1,D.far h2 k2 (fun j hj e=>h3 j e hj),fun j hj e=>?_,fun j hj=>?_,h5,fun j hj=>⟨Nat.lt_of_lt_of_le (r j hj).1 z,fun e=>?_,(r j hj).2.2⟩⟩,lj' h.ga i s,h.gk,Nat.le_trans h.bx z⟩,k2.mono (fun j _ e=>⟨h4 j e,fun g=>(r j g).2.1 e⟩)⟩
 ·rcases k3 j hj with f|f
  ·exact h3 j f e
  ·have:=I j e;omega
 ·rcases k3 j hj with f|f
  ·exact h4 j f
  ·have:=h.bx;omega
 ·rcases k3 j e with f|f
  ·exact(r j hj).2.1 f
  ·have:=(r j hj).1;omega
theorem bU'.hear (h:bU' C D B N x va vs a k G) (F:N < top) (bs:Value) (l:List UInt8) (H:Y' x bs l):
  Calls Tryz.prog 28 #[y' va,bs] x fun u y=>u= .returned (.int .i64 (aI' a l).1)/\bU' C D B N y va vs (aI' a l).2 k G/\eU' B G x y:=by
 obtain⟨M,I,h1,h2,h3,h4,h5,r⟩:=h.all;have J:=D.lt h2;refine(C.deliver bs l h1 h.ga F H).mono ?_;rintro u y ⟨U',rfl,k1,k2,k3⟩;have z:=k2.size;have hu:=C.lt k1;refine⟨rfl,⟨⟨U',I,k1,D.far h2 k2 (fun j hj e=>h3 j e hj),fun j hj e=>?_,fun j hj=>?_,h5,fun j hj=>⟨Nat.lt_of_lt_of_le (r j hj).1 z,fun e=>?_,(r j hj).2.2⟩⟩,pO' h.ga l,h.gk,Nat.le_trans h.bx z⟩,k2.mono (fun j _ e=>⟨h4 j e,fun g=>(r j g).2.1 e⟩)⟩
 ·rcases k3 j hj with f|f
  ·exact h3 j f e
  ·have:=J j e;omega
 ·rcases k3 j hj with f|f
  ·exact h4 j f
  ·have:=h.bx;omega
 ·rcases k3 j e with f|f
  ·exact(r j hj).2.1 f
  ·have:=(r j hj).1;omega
theorem bU'.tick (h:bU' C D B N x va vs a k G) (I:N < top):
  Calls Tryz.prog 24 #[y' va] x fun z y=>∃lv fs,z= .returned lv/\L' x.heap.size y lv fs (a.tick.2.map fun l=>⟨l.toArray⟩) (fun _=>False)/\bU' C D B (N+1) y va vs a.tick.1 k (fun j=>G j\/jD' lv fs j)/\eU' B G x y:=by
 obtain⟨M,J,h1,h2,h3,h4,h5,r⟩:=h.all;have F:=D.lt h2;refine(C.tick h1 h.ga I).mono ?_;rintro z y ⟨lv,fs,U',rfl,u,k1,k2,k3⟩;have H:=k2.size;have hu:=C.lt k1;refine⟨lv,fs,rfl,u.off,⟨⟨U',J,k1,D.far h2 k2 (fun j hj e=>h3 j e hj),fun j hj e=>?_,fun j hj=>?_,h5,fun j hj=>?_⟩,jf' h.ga,h.gk,Nat.le_trans h.bx H⟩,k2.mono (fun j _ e=>⟨h4 j e,fun g=>(r j g).2.1 e⟩)⟩
 ·rcases k3 j hj with f|f
  ·exact h3 j f e
  ·have:=F j e;omega
 ·rcases k3 j hj with f|f
  ·exact h4 j f
  ·have:=h.bx;omega
 ·rcases hj with hj|hj
  ·refine⟨Nat.lt_of_lt_of_le (r j hj).1 H,fun e=>?_,(r j hj).2.2⟩;rcases k3 j e with f|f
   ·exact(r j hj).2.1 f
   ·have:=(r j hj).1;omega
  ·have hl:=u.lt j hj;exact⟨hl.2,u.clear j hj,fun e=>by have:=F j e;omega⟩
theorem bU'.take (h:bU' C D B N x va vs a k G) (bs:Value) (l:List UInt8) (H:Y' x bs l):
  Calls Tryz.prog 27 #[y' vs,bs] x fun z y=>∃lv fs,z= .returned (.tuple #[lv, .int .i64 (av' k l).1])/\L' x.heap.size y lv fs (av' k l).2.2 (fun _=>False)/\bU' C D B N y va vs a (av' k l).2.1 (fun j=>G j\/jD' lv fs j)/\eU' B G x y:=by
 obtain⟨I,M,h1,h2,h3,h4,h5,r⟩:=h.all;have hu:=C.lt h1;refine(D.deliver bs l h2 h.gk H).mono ?_;rintro z y ⟨lv,fs,J,rfl,u,k1,k2,k3⟩;have F:=k2.size;refine⟨lv,fs,rfl,u.off,⟨⟨I,J,C.far h1 k2 (fun j hj e=>h3 j hj e),k1,fun j hj e=>?_,h4,fun j hj=>?_,fun j hj=>?_⟩,h.ga,jt' h.gk l,Nat.le_trans h.bx F⟩,k2.mono (fun j _ e=>⟨h5 j e,fun g=>(r j g).2.2 e⟩)⟩
 ·rcases k3 j e with f|f
  ·exact h3 j hj f
  ·have:=hu j hj;omega
 ·rcases k3 j hj with f|f
  ·exact h5 j f
  ·have:=h.bx;omega
 ·rcases hj with hj|hj
  ·refine⟨Nat.lt_of_lt_of_le (r j hj).1 F,(r j hj).2.1,fun e=>?_⟩;rcases k3 j e with f|f
   ·exact(r j hj).2.2 f
   ·have:=(r j hj).1;omega
  ·have hl:=u.lt j hj;exact⟨hl.2,fun e=>by have:=hu j e;omega,u.clear j hj⟩
theorem bU'.spool (h:bU' C D B N x va vs a k G) (i:Int):
  Calls Tryz.prog 26 #[y' va, .int .i64 i] x fun f y=>∃lv,f= .returned lv/\y.ownsRow x.heap.size 9 1 lv (au' a i).length (aK' (au' a i))/\bU' C D B N y va vs a k (fun j=>G j\/(x.heap.size<=j/\j < y.heap.size))/\Below x.heap.size x y:=by
 obtain⟨r,u,h1,_⟩:=h.all;refine(C.spool i h1).mono ?_;rintro f y ⟨lv,rfl,k1,k2⟩;exact⟨lv,rfl,k1,h.more k2,k2⟩
theorem bU'.log (h:bU' C D B N x va vs a k G) (i:Int):
  Calls Tryz.prog 32 #[y' vs, .int .i64 i] x fun f y=>∃lv,f= .returned lv/\y.ownsRow x.heap.size 9 1 lv (dJ' k i).length (aK' (dJ' k i))/\bU' C D B N y va vs a k (fun j=>G j\/(x.heap.size<=j/\j < y.heap.size))/\Below x.heap.size x y:=by
 obtain⟨r,u,_,h2,_⟩:=h.all;refine(D.log i h2 h.gk).mono ?_;rintro f y ⟨lv,rfl,k1,k2⟩;exact⟨lv,rfl,k1,h.more k2,k2⟩
end
theorem gr' {F:Nat} (C:dD' F) (w:World):
  Calls Tryz.prog 18 #[] w fun u y=>∃v f,u= .returned (y' v)/\C.At y v {epoch:=1,ticks:=0,welcome:=false,fenced:=false,fl:=fun _=>{base:=0,kept:=[],held:=[]}} f/\Below w.heap.size w y/\∀j,f j->w.heap.size<=j:=by
 go_enter Tryz.func18,Tryz.ntmps18;go_wp2_with (at_make;refine dj' rfl _ _ rfl w.heap.size _ _ _ _ 1664 rfl rfl rfl rfl (by omega) (Nat.le_refl _) ?_;intro J z D;have G:=t' (X' (B:=w.heap.size) D (Nat.le_refl _) (by simp));have H:=t' (as'.at z);clear z D);refine(C.opened _ (i' H)).mono ?_;rintro u y ⟨v,f,rfl,k1,k2,k3⟩;have I:=t' (And.intro k1 (And.intro k2 k3));clear k1 k2 k3;unfold y';go_wp2;go_ret;obtain⟨k1,k2,k3⟩:=i' I;have r:=i' G;exact⟨v,f,rfl,k1,r.trans (k2.mono r.size),fun j hj=>Nat.le_trans r.size (k3 j hj)⟩
theorem nR' (u:hu') (w:World):
  Calls Tryz.prog 19 #[] w fun z y=>∃v f,z= .returned (y' v)/\u.At y v {epoch:=0,logs:=fun _=>[],held:=[]} f/\Below w.heap.size w y/\∀j,f j->w.heap.size<=j:=by
 go_enter Tryz.func19,Tryz.ntmps19;go_wp2_with (at_make;refine dj' rfl _ _ rfl w.heap.size _ _ _ _ 7808 rfl rfl rfl rfl (by omega) (Nat.le_refl _) ?_;intro J D F;have G:=t' (X' (B:=w.heap.size) F (Nat.le_refl _) (by simp));have H:=t' (as'.at D);clear D F);refine(u.opened _ (i' H)).mono ?_;rintro z y ⟨v,f,rfl,k1,k2,k3⟩;have I:=t' (And.intro k1 (And.intro k2 k3));clear k1 k2 k3;unfold y';go_wp2;go_ret;obtain⟨k1,k2,k3⟩:=i' I;have r:=i' G;exact⟨v,f,rfl,k1,r.trans (k2.mono r.size),fun j hj=>Nat.le_trans r.size (k3 j hj)⟩
theorem ck' (c:Int) (n:Nat) (w:World) (z: -9223372036854775808<=c/\c<=9223372036854775807) (D:0 < n) (F:n<=100000000):
  Calls Tryz.prog 22 #[.int .i64 c, .int .i64 n] w fun r w'=>r= .returned (.int .i64 (bI' c n))/\w'=w:=by
 have u:¬ (n:Int)=0:=by omega
 have G:¬ (n:Int)= -1:=by omega
 have H:((n:Int) ==0)=false:=by simp;omega
 have f:Hid ((bI' c n:Int)=(if c < 0 then -(c+1)else c) % (n:Int)):=by have h2:=Int.emod_nonneg (if c < 0 then -(c+1)else c) u;unfold bI';show _= _;omega
 generalize bI' c n=j at f;obtain⟨d,hd⟩:∃d,d=if c < 0 then -(c+1)else c:=⟨_,rfl⟩
 rw[<-hd]at f;have hd0:0<=d/\d<=9223372036854775807:=by rw[hd];split <;> omega
 by_cases h:c < 0
 ·rw[if_pos h]at hd;have I:IntKind.i64.wrap (c+1)=c+1:=by rw[IntKind.wrap_i64];omega
  have J:IntKind.i64.wrap (-(c+1))=d:=by rw[IntKind.wrap_i64];omega
  clear hd;go_enter Tryz.func22,Tryz.ntmps22;go_wp2;go_ret;exact⟨ry' (i' f).symm,rfl⟩
 ·rw[if_neg h]at hd;subst hd;go_enter Tryz.func22,Tryz.ntmps22;go_wp2;go_ret;exact⟨ry' (i' f).symm,rfl⟩
def if' (n:Nat):List UInt8:=if n < 10 then [UInt8.ofNat (48+n)]else if' (n / 10)++[UInt8.ofNat (48+n % 10)]
def fK' (n:Nat):ByteArray:=⟨(if' n).toArray⟩
theorem pP':∀ (k n:Nat),n < 10 ^ (k+1)->(if' n).length<=k+1
 |0,n,h=>by rw[if',if_pos (by simpa using h)];simp
 |k+1,n,h=>by
  rw[if'];split
  ·simp
  ·have:=pP' k (n / 10) (by rw[Nat.pow_succ]at h;omega);simp;omega
theorem iS' {n:Nat} (h:n < 10000000000):(fK' n).size<=10:=by
 have:=pP' 9 n (by omega);simpa[fK',ByteArray.size]using this
theorem vf' (n:Nat):fK' n=if n < 10 then⟨#[UInt8.ofNat (48+n % 10)]⟩else fK' (n / 10)++⟨#[UInt8.ofNat (48+n % 10)]⟩:=by
 unfold fK';conv=>lhs;rw[if']
 split
 ·rename_i h;rw[Nat.mod_eq_of_lt h]
 ·apply ByteArray.ext;simp
theorem lk' (n:Nat) (w:World) (M:n<=1000000000):Calls Tryz.prog 23 #[.int .i64 n] w fun f y=>f= .returned (.string (fK' n))/\Below w.heap.size w y:=by
 have ih:¬n < 10->∀x,Hid (Calls Tryz.prog 23 #[.int .i64 (n / 10:Nat)] x fun f y=>f= .returned (.string (fK' (n / 10)))/\Below x.heap.size x y):=fun h x=>lk' (n / 10) x (by omega);have G:(convert 44 9 (.slice (some ⟨w.heap.size,0,none⟩) 1 1)).run Tryz.prog (w.alloc (.cells #[.int .u8 (48+(n:Int) % 10)] 5))= .ok (.string ⟨#[UInt8.ofNat (48+n % 10)]⟩) (w.alloc (.cells #[.int .u8 (48+(n:Int) % 10)] 5)):=
  fg' (l:=[UInt8.ofNat (48+n % 10)]) (b:=w.heap.size) (off:=0) (n:=1) (cap:=1) rfl (fun i hi=>by
   obtain rfl:i=0:=by omega
   rw[m' (heap_alloc_new w _)];simp only[List.getD_cons_zero,UInt8.toNat_ofNat'];have:((48+n % 10) % 2 ^ 8:Nat)=48+n % 10:=by omega
   rw[this];simp)
 have u:=t' ((Below.refl w.heap.size w).alloc (Nat.le_refl _) (.cells #[.int .u8 (48+(n:Int) % 10)] 5));have hd0:Hid (fK' n=if n < 10 then⟨#[UInt8.ofNat (48+n % 10)]⟩else fK' (n / 10)++⟨#[UInt8.ofNat (48+n % 10)]⟩):=vf' n;obtain⟨r,z⟩:∃r,r=UInt8.ofNat (48+n % 10):=⟨_,rfl⟩;rw[<-z]at G hd0;clear z;by_cases h:n < 10
 ·have hi:(n:Int) < 10:=by omega
  have hd:Hid (fK' n=⟨#[r]⟩):=(i' hd0).trans (if_pos h);clear ih;go_enter Tryz.func23,Tryz.ntmps23;go_wp2;go_ret;exact⟨by rw[i' hd];rfl,i' u⟩
 ·have hi:¬ (n:Int) < 10:=by omega
  have hd:Hid (fK' n=fK' (n / 10)++⟨#[r]⟩):=(i' hd0).trans (if_neg h);clear hd0;have ih:=ih h;have H:(fK' (n / 10)).size<=10:=iS' (by omega);generalize fK' (n / 10)=I at ih hd H;have O:¬9223372036854775807 < I.size+1:=by omega
  obtain⟨m,D⟩:∃m,m=n / 10:=⟨_,rfl⟩;rw[<-D]at ih;have Q:(n:Int).tdiv 10=(m:Int):=by rw[Int.tdiv_eq_ediv_of_nonneg (by omega)];omega
  have U:(n:Int) / 10=(m:Int):=by omega
  have V:IntKind.i64.wrap (m:Int)=(m:Int):=by rw[IntKind.wrap_i64];omega
  clear D;go_enter Tryz.func23,Tryz.ntmps23;go_wp2_with (go_at_call 23;refine(i' (ih _)).mono ?_;rintro f y ⟨rfl,F⟩;have J:=t' ((i' u).trans (F.mono (i' u).size));clear F);go_ret;exact⟨by rw[i' hd];rfl,i' J⟩
  termination_by n
  decreasing_by omega
theorem ig' {a b:ByteArray} (h:a≠b):(a.toList==b.toList)=false:=by
 rw[iW',iW'];cases f:(a.data.toList==b.data.toList)with
 |false=>rfl
 |true=>rw[beq_iff_eq]at f;exact absurd (by cases a;cases b;simp at f;rw[f]) h
theorem eV' (w:World) (v I:Value) (A B:List ByteArray) (ab:cm' w v (aK' A)) (hu:cm' w I (aK' B)) (au:A.length<=1000000000):
  Calls Tryz.prog 33 #[v,I] w fun ac y=>ac= .returned (.bool (decide (A=B)))/\∃q,y=w.drewN q:=by
 obtain⟨av,ax,J,ad,ay,u⟩:=ab;obtain⟨az,aA,M,O,aB,z⟩:=hu;rw[bG']at J ad u M O z;subst J M;have ah:=t' u;have Q:=t' z;clear u z;by_cases U:A.length=B.length
 ·rw[<-U]at Q O ⊢;have ai:((A.length:Int) != (A.length:Int))=false:=by simp
  go_enter Tryz.func33,Tryz.ntmps33;go_wp2;go_loopw[5] (fun i wr=>∃k:Nat,k<=A.length/\i= .int .i64 k/\A.take k=B.take k/\∃q,wr=w.drewN q) (fun i _=>A.length - (intOf i).toNat)
  case atStart=>exact⟨0,by omega,rfl,rfl,0,rfl⟩
  case round=>
   obtain⟨k,aC,rfl,f,q,rfl⟩:=hrel;by_cases r:k < A.length
   ·have V:k < B.length:=by omega
    obtain⟨g,o,rfl,_,X⟩:=(i' ah) (by omega);obtain⟨g2,aD,rfl,_,Y⟩:=(i' Q) (by omega);have Z:(aK' A)[k]? =some (.string A[k]):=by simp[aK',r]
    have aa:(aK' B)[k]? =some (.string B[k]):=by simp[aK',V]
    have aj:=(X k r).trans Z;have ak:=(Y k r).trans aa;have ao:=t' f;have D:Hid (A[k]? =some A[k]):=List.getElem?_eq_getElem r;have F:Hid (B[k]? =some B[k]):=List.getElem?_eq_getElem V;clear X Y Z aa f;generalize A[k]=G at aj D;generalize B[k]=ap at ak F;by_cases H:G=ap
    ·subst H;have aq:(G.toList==G.toList)=true:=beq_self_eq_true _;go_wp2;go_quiet (fail);go_wp2;go_roundw
     case rel=>exact⟨k+1,by omega,by go_num,by rw[List.take_add_one,List.take_add_one,i' ao,i' D,i' F],q+nq,by simp⟩
     case measure=>simp[intOf];omega
    ·have aq:=ig' H;have hd:decide (A=B)=false:=by rw[decide_eq_false_iff_not];intro e;have h1:=i' D;rw[e,i' F]at h1;injection h1 with h1;exact H h1.symm
     go_wp2;go_quiet (fail);go_wp2;go_ret;exact⟨by rw[hd];rfl,q+nq,by simp⟩
   ·have hd:decide (A=B)=true:=by rw[decide_eq_true_iff];rw[List.take_of_length_le (by omega),List.take_of_length_le (by omega)]at f;exact f
    go_wp2;go_ret;exact⟨by rw[hd];rfl,q,rfl⟩
 ·have hd:decide (A=B)=false:=by rw[decide_eq_false_iff_not];intro e;exact U (by rw[e])
  have ai:((A.length:Int) != (B.length:Int))=true:=by simp;omega
  go_enter Tryz.func33,Tryz.ntmps33;go_wp2;go_ret;exact⟨by rw[hd];rfl,0,rfl⟩
def AgE (d:Bool) (w:World) (v:Nat) (a:Mod.Ag) (f:Nat->Prop):Prop:=(d=false/\∃n,iQ' n w v a f)\/(d=true/\ia' a.epoch w v a f)
def rj' (i:Int) (s:ByteArray) (d:Bool) (a:Mod.Ag) (e:Int) (f:Bool) (a':Mod.Ag):Prop:=
 (d=true/\e=3/\a'=a/\f=true)\/(d=false/\e=4/\a'=a/\f=true)\/(d=false/\e=a.refuses i s.size/\a'=ai' a i s/\f=false)
def uk' (l:List UInt8) (d:Bool) (a:Mod.Ag) (e:Int) (f:Bool) (a':Mod.Ag):Prop:=
 (d=true/\e=3/\a'=a/\f=true)\/(d=false/\e=4/\a'=a/\f=true/\0 < eS' a l)\/(d=false/\e=(aI' a l).1/\a'=(aI' a l).2/\f=false)
section
variable {d:Bool} {w w':World} {v N:Nat} {a:Mod.Ag} {U:Nat->Prop}
theorem AgE.lt (h:AgE d w v a U):∀k,U k->k < w.heap.size:=by
 rcases h with ⟨_,n,h⟩|⟨_,h⟩
 ·exact rN' h
 ·exact uR' h
theorem AgE.far {E:Nat->Prop} (h:AgE d w v a U) (f:Far E w w') (r:∀k,U k->¬E k):AgE d w' v a U:=by
 rcases h with ⟨e,n,h⟩|⟨e,h⟩
 ·exact .inl ⟨e,n,pA' h f r⟩
 ·exact .inr ⟨e,ud' h f r⟩
theorem AgE.submit (i:Int) (s:ByteArray) (h:AgE d w v a U) (r:aH' N a) (u:N < 1000000000):
  Calls Tryz.prog 21 #[y' v, .int .i64 i, .string s] w fun f w'=>
   ∃ (e:Int) (z:Bool) (a':Mod.Ag) (U':Nat->Prop),f= .returned (.int .i64 e)/\AgE z w' v a' U'/\Far U w w'/\(∀k,U' k->U k\/w.heap.size<=k)/\rj' i s d a e z a':=by
 rcases h with ⟨rfl,n,h⟩|⟨rfl,h⟩
 ·by_cases D:n≠1\/a.refuses i s.size≠0
  ·refine(pG' i s h r u D).mono ?_;rintro f w' ⟨U',rfl,k1,k2,k3⟩;exact⟨_,false,_,U',rfl, .inl ⟨rfl,_,k1⟩,k2,k3, .inr (.inr ⟨rfl,rfl,rfl,rfl⟩)⟩
  ·have h1:n=1:=by omega
   have h2:a.refuses i s.size=0:=by omega
   subst h1;refine(nI' i s h r u h2).mono ?_;rintro f w' ⟨U',rfl,k1,k2,k3⟩;exact⟨_,true,_,U',rfl, .inr ⟨rfl,k1⟩,k2,k3, .inr (.inl ⟨rfl,rfl,rfl,rfl⟩)⟩
 ·refine(nJ' i s h).mono ?_;rintro f w' ⟨rfl,rfl⟩;exact⟨_,true,_,U,rfl, .inr ⟨rfl,h⟩,Far.refl _ _,fun _ F=> .inl F, .inl ⟨rfl,rfl,rfl,rfl⟩⟩
theorem AgE.deliver (bs:Value) (l:List UInt8) (h:AgE d w v a U) (r:aH' N a) (u:N < 1000000000) (z:Y' w bs l):
  Calls Tryz.prog 28 #[y' v,bs] w fun f w'=>
   ∃ (e:Int) (D:Bool) (a':Mod.Ag) (U':Nat->Prop),f= .returned (.int .i64 e)/\AgE D w' v a' U'/\Far U w w'/\(∀k,U' k->U k\/w.heap.size<=k)/\uk' l d a e D a':=by
 rcases h with ⟨rfl,n,h⟩|⟨rfl,h⟩
 ·by_cases F:n≠1\/eS' a l=0
  ·refine(mK' bs l h r u z F).mono ?_;rintro f w' ⟨U',rfl,k1,k2,k3⟩;exact⟨_,false,_,U',rfl, .inl ⟨rfl,_,k1⟩,k2,k3, .inr (.inr ⟨rfl,rfl,rfl,rfl⟩)⟩
  ·have h1:n=1:=by omega
   have h2:0 < eS' a l:=by omega
   subst h1;refine(md' bs l h r u z h2).mono ?_;rintro f w' ⟨U',rfl,k1,k2,k3⟩;exact⟨_,true,_,U',rfl, .inr ⟨rfl,k1⟩,k2,k3, .inr (.inl ⟨rfl,rfl,rfl,rfl,h2⟩)⟩
 ·refine(ma' bs h).mono ?_;rintro f w' ⟨rfl,rfl⟩;exact⟨_,true,_,U,rfl, .inr ⟨rfl,h⟩,Far.refl _ _,fun _ G=> .inl G, .inl ⟨rfl,rfl,rfl,rfl⟩⟩
def cB' (d:Bool) (a:Mod.Ag):Mod.Ag×List (List UInt8):=if d=true then({a with ticks:=a.ticks+1},[])else a.tick
theorem AgE.tick (h:AgE d w v a U) (u:aH' N a) (z:N < 1000000000):
  Calls Tryz.prog 24 #[y' v] w fun f w'=>
   ∃lv fs U',f= .returned lv/\L' w.heap.size w' lv fs ((cB' d a).2.map fun l=>⟨l.toArray⟩) U'/\AgE d w' v (cB' d a).1 U'/\Far U w w'/\∀k,U' k->U k\/w.heap.size<=k:=by
 rcases h with ⟨rfl,n,h⟩|⟨rfl,h⟩
 ·refine(ue' h u z).mono ?_;rintro f w' ⟨lv,fs,U',rfl,k0,k1,k2,k3⟩;exact⟨lv,fs,U',rfl,k0, .inl ⟨rfl,n,k1⟩,k2,k3⟩
 ·refine(re' h (by have:=u.tk;omega)).mono ?_;rintro f w' ⟨U',rfl,k1,k2,k3⟩;exact⟨_,[],U',rfl,(bC' _ _).apartU (fun k r=>by
   rcases r with r|⟨j,hj,_⟩
   ·cases r
   ·simp at hj), .inr ⟨rfl,k1⟩,k2,k3⟩
theorem AgE.spool (i:Int) (h:AgE false w v a U):Calls Tryz.prog 26 #[y' v, .int .i64 i] w fun f w'=>
  ∃lv,f= .returned lv/\w'.ownsRow w.heap.size 9 1 lv (au' a i).length (aK' (au' a i))/\Below w.heap.size w w':=by
 rcases h with ⟨_,n,h⟩|⟨e,_⟩
 ·exact rQ' i h
 ·cases e
theorem AgE.arm (m:Int) (h:AgE d w v a U) (r:m<=9223372036854775807):Calls Tryz.prog 34 #[y' v, .int .i64 m] w fun f w'=>f= .returned (.tuple #[])/\AgE d w' v a U/\Far U w w':=by
 rcases h with ⟨rfl,n,h⟩|⟨rfl,h⟩
 ·refine(wm' m h r).mono ?_;rintro f w' ⟨rfl,k1,k2⟩;exact⟨rfl, .inl ⟨rfl,_,k1⟩,k2⟩
 ·refine(uW' m h r).mono ?_;rintro f w' ⟨rfl,k1,k2⟩;exact⟨rfl, .inr ⟨rfl,k1⟩,k2⟩
theorem AgE.img (h:AgE d w v a U):∃ (L:List UInt8) (c2 hd:Nat) (free:List Nat) (f:Nat->List Nat),Mod.AgDisk L a.epoch c2 hd a free f/\Mod.Places a free f/\∀x,Below w.heap.size w x->∀u:Int,
  Calls Tryz.prog 29 #[y' v, .int .u64 u] x fun z y=>∃r,z= .returned r/\as' x.heap.size y r L/\Below x.heap.size x y:=by
 rcases h with ⟨rfl,n,h⟩|⟨rfl,h⟩
 ·exact wk' h
 ·exact(vV' h).2
theorem ul' (bs:Value) (L:List UInt8) {c2 hd:Nat} {free:List Nat} {f:Nat->List Nat} (u:Y' w bs L) (z:Mod.AgDisk L a.epoch c2 hd a free f) (P:Mod.Places a free f) (D:a.epoch<=1073741824) (F:∀i,i < 3->(a.fl i).base+(a.fl i).kept.length<=1073741824):
  Calls Tryz.prog 37 #[bs] w fun r w'=>∃v U,r= .returned (.tuple #[y' v, .int .i64 0])/\AgE false w' v (Mod.reop a) U/\Below w.heap.size w w'/\∀k,U k->w.heap.size<=k:=by
 refine(vX' bs L u z P D F).mono ?_;rintro r w' ⟨v,U,rfl,k1,k2,k3⟩;exact⟨v,U,rfl, .inl ⟨rfl,0,k1⟩,k2,k3⟩
end
def SkE (K:Nat) (d:Bool) (w:World) (v:Nat) (s:Mod.Sk) (f:Nat->Prop):Prop:=
 (d=false/\∃op ct n,op<=K+1/\ct<=1000 * (K+1)/\gg' op ct n w v s f)\/(d=true/\∃op,op<=K+1/\nO' op w v s.epoch s.logs f)
def iT' (l:List UInt8) (d:Bool) (s:Mod.Sk) (e:Int) (f:Bool) (s':Mod.Sk) (r:List ByteArray):Prop:=
 (d=true/\e=3/\s'=s/\f=true/\r=[])\/(d=false/\e=4/\f=true/\r=[]/\∃n,1<=n/\n<=skW s l/\s'={epoch:=s.epoch,logs:=ic' s l n,held:=[]})\/
 (d=false/\e=(av' s l).1/\s'=(av' s l).2.1/\f=false/\r=(av' s l).2.2)
theorem nS' {L:List UInt8} {op c2 hd e:Nat} {lg:Nat->List ByteArray} (h:Mod.SkDisk L op c2 hd e lg):ay' {epoch:=e,logs:=lg,held:=[]}:=by
 obtain⟨u,z,f,_⟩:=h.rcs;exact⟨fun h r=>by simp at r,by simp,by show Mod.cnt lg<=120;exact f,h.ok.sm 0 (by omega)⟩
theorem um' {a:Mod.Sk} (f:ay' a) (k e:Int) (s q:Nat) (b:ByteArray):rg' a k e s q b<=120:=by
 unfold rg' hiW;have:=gV' (a:=a) 3 a.epoch s q b f.room;repeat' split
 all_goals omega
theorem vZ' {a:Mod.Sk} (f:ay' a) (l:List UInt8):skW a l<=120:=by
 unfold skW;split
 ·exact um' f _ _ _ _ _
 ·omega
section
variable {d:Bool} {w w':World} {v K:Nat} {s:Mod.Sk} {U:Nat->Prop}
theorem SkE.lt (h:SkE K d w v s U):∀k,U k->k < w.heap.size:=by
 rcases h with ⟨_,op,ct,n,_,_,h⟩|⟨_,op,_,h⟩
 ·exact rR' h
 ·exact vd' h
theorem SkE.far {E:Nat->Prop} (h:SkE K d w v s U) (f:Far E w w') (r:∀k,U k->¬E k):SkE K d w' v s U:=by
 rcases h with ⟨e,op,ct,n,h1,h2,h⟩|⟨e,op,h1,h⟩
 ·exact .inl ⟨e,op,ct,n,h1,h2,pL' h f r⟩
 ·exact .inr ⟨e,op,h1,uh' h f r⟩
theorem SkE.mono {K':Nat} (h:SkE K d w v s U) (hK:K<=K'):SkE K' d w v s U:=by
 rcases h with ⟨e,op,ct,n,h1,h2,h⟩|⟨e,op,h1,h⟩
 ·exact .inl ⟨e,op,ct,n,by omega,by omega,h⟩
 ·exact .inr ⟨e,op,by omega,h⟩
theorem SkE.deliver (bs:Value) (l:List UInt8) (h:SkE K d w v s U) (f:ay' s) (hK:K < 1000000000) (z:Y' w bs l):
  Calls Tryz.prog 27 #[y' v,bs] w fun u w'=>
   ∃ (e:Int) (D:Bool) (s':Mod.Sk) (lv:Value) (fs:List Value) (F:List ByteArray) (U':Nat->Prop),u= .returned (.tuple #[lv, .int .i64 e])/\L' w.heap.size w' lv fs F U'/\SkE (K+1) D w' v s' U'/\ay' s'/\Far U w w'/\(∀k,U' k->U k\/w.heap.size<=k)/\iT' l d s e D s' F:=by
 rcases h with ⟨rfl,op,ct,n,h1,h2,h⟩|⟨rfl,op,h1,h⟩
 ·have I:=vZ' f l;by_cases G:n=0\/skW s l < n
  ·refine(ie' bs l h (by omega) f z G).mono ?_;rintro u w' ⟨lv,fs,U',rfl,k0,k1,k2,k3⟩;exact⟨_,false,_,lv,fs,_,U',rfl,k0, .inl ⟨rfl,op,_,_,by omega,by omega,k1⟩,jt' f l,k2,k3, .inr (.inr ⟨rfl,rfl,rfl,rfl,rfl⟩)⟩
  ·refine(mg' bs l h (by omega) f z (by omega)).mono ?_;rintro u w' ⟨lv,fs,U',rfl,k0,k1,k2,k3⟩;obtain⟨L,c2,hd,H,_⟩:=vy' k1;exact⟨_,true,{epoch:=s.epoch,logs:=ic' s l n,held:=[]},lv,fs,_,U',rfl,k0, .inr ⟨rfl,op,by omega,k1⟩,nS' H,k2,k3, .inr (.inl ⟨rfl,rfl,rfl,rfl,n,by omega,by omega,rfl⟩)⟩
 ·refine(sR' bs h).mono ?_;rintro u w' ⟨rfl,rfl⟩;exact⟨_,true,s,_,[],_,U,rfl,(bC' _ _).apartU (fun k r=>by
   rcases r with r|⟨j,hj,_⟩
   ·cases r
   ·simp at hj), .inr ⟨rfl,op,by omega,h⟩,f,Far.refl _ _,fun _ r=> .inl r, .inl ⟨rfl,rfl,rfl,rfl,rfl⟩⟩
theorem SkE.log (i:Int) (h:SkE K false w v s U):Calls Tryz.prog 32 #[y' v, .int .i64 i] w fun f w'=>
  ∃lv,f= .returned lv/\w'.ownsRow w.heap.size 9 1 lv (dJ' s i).length (aK' (dJ' s i))/\Below w.heap.size w w':=by
 rcases h with ⟨_,op,ct,n,_,_,h⟩|⟨e,_⟩
 ·exact vx' i h
 ·cases e
theorem SkE.arm (m:Int) (h:SkE K d w v s U) (r:m<=9223372036854775807):Calls Tryz.prog 35 #[y' v, .int .i64 m] w fun f w'=>f= .returned (.tuple #[])/\SkE K d w' v s U/\Far U w w':=by
 rcases h with ⟨rfl,op,ct,n,h1,h2,h⟩|⟨rfl,op,h1,h⟩
 ·refine(wo' m h r).mono ?_;rintro f w' ⟨rfl,k1,k2⟩;exact⟨rfl, .inl ⟨rfl,op,ct,_,h1,h2,k1⟩,k2⟩
 ·refine(wp' m h r).mono ?_;rintro f w' ⟨rfl,k1,k2⟩;exact⟨rfl, .inr ⟨rfl,op,h1,k1⟩,k2⟩
theorem SkE.img (h:SkE K d w v s U):∃ (L:List UInt8) (op c2 hd:Nat),op<=K+1/\Mod.SkDisk L op c2 hd s.epoch s.logs/\∀x,Below w.heap.size w x->∀r:Int,
  Calls Tryz.prog 30 #[y' v, .int .u64 r] x fun u y=>∃f,u= .returned f/\as' x.heap.size y f L/\Below x.heap.size x y:=by
 rcases h with ⟨rfl,op,ct,n,h1,h2,h⟩|⟨rfl,op,h1,h⟩
 ·obtain⟨L,c2,hd,k1,k2⟩:=wq' h;exact⟨L,op,c2,hd,h1,k1,k2⟩
 ·obtain⟨L,c2,hd,k1,k2⟩:=vy' h;exact⟨L,op,c2,hd,h1,k1,k2⟩
theorem un' (bs:Value) (L:List UInt8) {op c2 hd e:Nat} {lg:Nat->List ByteArray} (r:Y' w bs L) (u:Mod.SkDisk L op c2 hd e lg) (z:op<=K+1) (hK:K < 1000000000):
  Calls Tryz.prog 38 #[bs] w fun f w'=>∃v U,f= .returned (.tuple #[y' v, .int .i64 0])/\SkE (K+1) false w' v {epoch:=e,logs:=lg,held:=[]} U/\Below w.heap.size w w'/\∀k,U k->w.heap.size<=k:=by
 refine(vY' bs L r u (by omega)).mono ?_;rintro f w' ⟨v,U,rfl,k1,k2,k3⟩;exact⟨v,U,rfl, .inl ⟨rfl,op+1,1,0,by omega,by omega,k1⟩,k2,k3⟩
theorem uo' (bs:Value) (r:Y' w bs (List.replicate 7808 0)):
  Calls Tryz.prog 38 #[bs] w fun f w'=>∃v U,f= .returned (.tuple #[y' v, .int .i64 0])/\SkE 0 false w' v {epoch:=0,logs:=fun _=>[],held:=[]} U/\Below w.heap.size w w'/\∀k,U k->w.heap.size<=k:=by
 refine(js' bs r).mono ?_;rintro f w' ⟨v,U,rfl,k1,k2,k3⟩;exact⟨v,U,rfl, .inl ⟨rfl,1,1,0,by omega,by omega,k1⟩,k2,k3⟩
end
end Go.Proofs.YtamafdcnbcoegaaGreat
