/- Part 6. -/
import Derived.Maps.OwnIn
import Derived.Shelf.Small.Wraps
import Derived.Shelf.LaysM
import Derived.Shelf.Strconv.Clone
import Derived.Shelf.Slices.Reverse
import Derived.Ground.Names2Prog
import Derived.Shelf.Slices.Clone
import Derived.Shelf.Slices.SearchI
import Derived.Shelf.Slices.Delete
import Derived.Shelf.Slices.Cells
import Derived.Shelf.Slices.Empties
import Derived.Test.YtamafdcnbcoegaaGreatProg
import Derived.Shelf.Spec.SlicesInsertGrow
import Derived.Test.YtamafdcnbcoegaaGreatOj5
set_option maxRecDepth 100000
set_option maxHeartbeats 40000000
namespace Go.Proofs.YtamafdcnbcoegaaGreat
attribute [local simp, local go_sem] Ev Ep Ei Eb Et
abbrev z16:= @Array.getElem?_setIfInBounds_ne
abbrev z60:= @List.pairwise_cons
abbrev z90:= @List.length_singleton
abbrev z95:= @Go.MapKept.run_getObj_map
abbrev wn':= @List.getElem?_cons_succ
abbrev sC':= @List.take_add_one
abbrev z124:= @Option.isSome_some
abbrev z128:= @Option.isSome_none
abbrev wo':= @List.eq_nil_or_concat
abbrev wp':= @List.concat_eq_append
abbrev wq':= @List.take_succ_cons
abbrev wr':= @List.drop_succ_cons
abbrev z142:= @Option.getD_none
abbrev yf':= @List.contains_cons
abbrev qg':= @Nat.le_of_lt
abbrev Ao':= @List.mem_eraseIdx_iff_getElem?
abbrev yg':= @Bool.false_or
abbrev zE':= @List.getElem_of_mem
abbrev z210:= @Array.toList_push
open Go.RowKit Go.Proofs.Tryz
theorem cL' (w:World) (A B:Obj):((w.alloc A).alloc B).heap[w.heap.size]? =some A/\((w.alloc A).alloc B).heap[w.heap.size+1]? =some B/\Below w.heap.size w ((w.alloc A).alloc B):=by
 have h1:=z19 (w.alloc A) B;have z:(w.alloc A).heap.size=w.heap.size+1:=by simp
 rw[z]at h1;refine⟨?_,h1,((z11 _ _).alloc (z13 _) _).alloc (by omega) _⟩;rw[hao _ _ (by omega)];exact z19 w A
theorem hT' (o c a b d:Nat) (w:World) (au:o < 4294967296) (av:c < 18446744073709551616) (aA:a < 4294967296) (hb:b < 4294967296) (hd:d < 4294967296):
  Calls prog 198 #[.agg #[.int .u32 o, .int .u64 c, .int .i64 a, .int .i64 b, .int .i64 d]] w fun r w'=>r= .returned (.agg (bv (Mq.Xc o c (Mq.Jq a b d))).toArray)/\Below w.heap.size w w':=by
 have aB:∀y:World,(Instr.index 136 (.agg #[.int .i64 a, .int .i64 b, .int .i64 d]) (.int .i64 0)).run prog y= .ok (.int .i64 a) y:=fun y=>by kernel_rfl
 have aC:∀y:World,(Instr.index 136 (.agg #[.int .i64 a, .int .i64 b, .int .i64 d]) (.int .i64 1)).run prog y= .ok (.int .i64 b) y:=fun y=>by kernel_rfl
 have aD:∀y:World,(Instr.index 136 (.agg #[.int .i64 a, .int .i64 b, .int .i64 d]) (.int .i64 2)).run prog y= .ok (.int .i64 d) y:=fun y=>by kernel_rfl
 have hl:∀n:Int,(Qb.le4 n).length=4:=fun n=>Qb.Qw n;go_enter func198,ntmps198;go_upto_region 2 with fail;refine G' (fun x=>x.heap[w.heap.size]? =some (.cells #[.int .u32 o, .int .u64 c, .int .i64 a, .int .i64 b, .int .i64 d] 217 (0,0))/\x.heap[w.heap.size+1]? =some (.cells (bv bd').toArray 207 (0,0))/\Below w.heap.size w x) ?_ ?_
 ·exact⟨(cL' _ _ _).1,fJ' (cL' _ _ _).2.1 (by kernel_rfl),(cL' _ _ _).2.2⟩
 rintro x ⟨h0,h1,ai⟩;have c2:x.cell? ⟨w.heap.size,2,none⟩=some (.int .i64 a):=y' (i:=2) h0;have c3:x.cell? ⟨w.heap.size,3,none⟩=some (.int .i64 b):=y' (i:=3) h0;have c4:x.cell? ⟨w.heap.size,4,none⟩=some (.int .i64 d):=y' (i:=4) h0;have aE:=z14 h1;have I:=m' h0;have J:=m' h1;have aj:=m' ai;clear h0 h1 ai;go_wp2;go_loopw[3,5,8] (fun v _ i wr=>∃j:Nat,j<=3/\i= .int .i64 j/\Qt (w.heap.size+2) wr v ((Mq.Jq a b d).take (4 * j))/\wr.heap[w.heap.size]? =some (.cells #[.int .u32 o, .int .u64 c, .int .i64 a, .int .i64 b, .int .i64 d] 217 (0,0))/\wr.heap[w.heap.size+1]? =some (.cells (bv bd').toArray 207 (0,0))/\Below w.heap.size w wr) (fun _ _ i _=>3 - (intOf i).toNat)
 case atStart=>exact⟨0,by omega,rfl,gY' _ _,d' I,d' J,d' aj⟩
 case round=>
  obtain⟨j,hj,rfl,ak,ao,ab,ap⟩:=hrel;clear I J aj c2 c3 c4;have aF:=z14 ab;have G:=m' ak;have I:=m' ao;have J:=m' ab;have M:=m' ap;clear ak ao ab ap;rcases(show j=0\/j=1\/j=2\/j=3 by omega)with rfl|rfl|rfl|rfl
  ·have Q:=m' (show(Mq.Jq a b d).take (4 * (0+1))=(Mq.Jq a b d).take (4 * 0)++Qb.le4 a by simp[Mq.Jq,Qb.le4]);go_upto_region 6 with (go_at_call 135;refine(aE' (w.heap.size+2) (a:Int) u3 _ wr (by simp only[List.length_take,Mq.Jo];omega) (by omega) (by omega) (d' G)).mono ?_;rintro r O ⟨v',rfl,H,z⟩;have F:Below (w.heap.size+2) wr O:=Y' z (by omega) (fun g z=>((d' G).lt g z).1);have V:=m' H;have Y:=m' ((d' M).trans (F.mono (by omega)));have Z:=m' ((F.block _ (by omega)).trans (d' I));have aa:=m' ((F.block _ (by omega)).trans (d' J));clear H z F);go_wp2;exact⟨⟨0+1,by omega,by go_num,by rw[d' Q];exact d' V,d' Z,d' aa,d' Y⟩,by simp[intOf]⟩
  ·have Q:=m' (show(Mq.Jq a b d).take (4 * (1+1))=(Mq.Jq a b d).take (4 * 1)++Qb.le4 b by simp[Mq.Jq,Qb.le4]);go_upto_region 6 with (go_at_call 135;refine(aE' (w.heap.size+2) (b:Int) u3 _ wr (by simp only[List.length_take,Mq.Jo];omega) (by omega) (by omega) (d' G)).mono ?_;rintro r O ⟨v',rfl,H,z⟩;have F:Below (w.heap.size+2) wr O:=Y' z (by omega) (fun g z=>((d' G).lt g z).1);have V:=m' H;have Y:=m' ((d' M).trans (F.mono (by omega)));have Z:=m' ((F.block _ (by omega)).trans (d' I));have aa:=m' ((F.block _ (by omega)).trans (d' J));clear H z F);go_wp2;exact⟨⟨1+1,by omega,by go_num,by rw[d' Q];exact d' V,d' Z,d' aa,d' Y⟩,by simp[intOf]⟩
  ·have Q:=m' (show(Mq.Jq a b d).take (4 * (2+1))=(Mq.Jq a b d).take (4 * 2)++Qb.le4 d by simp[Mq.Jq,Qb.le4]);go_upto_region 6 with (go_at_call 135;refine(aE' (w.heap.size+2) (d:Int) u3 _ wr (by simp only[List.length_take,Mq.Jo];omega) (by omega) (by omega) (d' G)).mono ?_;rintro r O ⟨v',rfl,H,z⟩;have F:Below (w.heap.size+2) wr O:=Y' z (by omega) (fun g z=>((d' G).lt g z).1);have V:=m' H;have Y:=m' ((d' M).trans (F.mono (by omega)));have Z:=m' ((F.block _ (by omega)).trans (d' I));have aa:=m' ((F.block _ (by omega)).trans (d' J));clear H z F);go_wp2;exact⟨⟨2+1,by omega,by go_num,by rw[d' Q];exact d' V,d' Z,d' aa,d' Y⟩,by simp[intOf]⟩
  ·rw[z46 (by rw[Mq.Jo];omega)]at G;obtain⟨c0,c1⟩:=eE' (d' I);have aq:=m' (qf' o c (Mq.Jq a b d) u3 wr au av (by rw[Mq.Jo];omega) (d' G).at);have ac:(Mq.Xc o c (Mq.Jq a b d)).length=64:=Mq.Jw o c (by rw[Mq.Jo];omega);obtain⟨S,ad⟩:=exq (Mq.Xc o c (Mq.Jq a b d));rw[<-ad]at aq ac;have ax:=m' ad;clear ad;go_wp2_with (first
    |(go_at_call 184;refine(d' aq).mono ?_;rintro r O ⟨rfl,ah⟩)
    |(refine dp' rfl (.tmp 2) (.tmp 19) rfl (w.heap.size+1) rfl S ac rfl 207 _ (by simp[Z',aA']) ((ah.block _ (by omega)).trans (d' J)) ?_;intro z4 ay az;go_simp))
   exact z50 (ex' results198 _ _ (w.heap.size+1) _ _ ac rfl ay) rfl ⟨by rw[d' ax],((d' M).trans (ah.mono (d' M).size)).trans (az.below (by have:=(d' M).size;have:=ah.size;omega) (fun k hk e=>by omega))⟩
variable{N:Oper}{I:Act}{Z:Exit -> Act -> World -> Prop}{p:World}
theorem or' {K:Act->World->Prop} (s x:Operand)
  (F:N.op= .call {callee:= .builtin .append,args:= #[s,x],argTypes:= #[44,9]}) (B:Nat) (v:Value) (l:List UInt8) (G:Qt B p v l) (hs:I.eval s=v)
  (z:z10) (H:I.eval x= .string z) (J:l.length+z.size<=140737488355328) (M:B<=p.heap.size)
  (h:∀v' w',Qt B w' v' (l++z.data.toList)->p.grownBy w' v.ownBlock->K (I.put N.dst v') w'):N.wp prog I p K Z:=by
 obtain⟨i0,hi,O,Q,V⟩:=nT' jf';obtain⟨v',w',Y,h1,h2,_⟩:=Lib.run_append_own_string (P:=prog) p B 44 9 N.type 5 i0 underlying44 underlying9 hi O Q V v l.length (bv l) G z
  (by unfold maxLen;omega) J M
 unfold Oper.wp execOp;simp only[F,resolve,invoke,builtin,Sem.run_bind,Sem.run_pure,Result.andThen_ok,List.map_toArray,List.map_cons,List.map_nil,hs,H,Y];refine h v' w' ?_ h2;unfold Qt;rw[cP',z35,<-vz'];have:z.data.toList.length=z.size:=by simp
 rw[this];exact h1
variable{w a q:Nat}{j:TypeId}{c:Value}{t:List Value}
theorem aC' {w':World} (h:p.ownsRow w j a c q t) (hk:∀g,c.ownBlock=some g->w'.heap[g]? =p.heap[g]?):w'.ownsRow w j a c q t:=by
 obtain⟨h1,h2⟩:=h;refine⟨h1,?_⟩;rcases h2 with h2|⟨g,cap,z,rfl,hb,F,r⟩
 ·exact .inl h2
 ·exact .inr ⟨g,cap,z,rfl,hb,by rw[hk g rfl];exact F,r⟩
variable{m:List UInt8}{D:Nat -> Prop}
theorem mz' (F:∀k,D k->k < w):bP' D (qe' w m):=fun _ _ _ h hF=>
 ⟨aC' h.1 (fun g z=>hF.rest g (h.2 g z) (fun e=>by have:=(h.1.lt g z).1;have:=F g e;omega)),fun g z=>z20 (h.2 g z) hF.size⟩
theorem ca' (k:Nat) (o:Obj):bm' (fun _ w=>w.heap[k]? =some o):=fun _ _ _ h hb=>(hb.block k (z14 h)).trans h
variable{aQ:Obj}
theorem qh' (z:¬D w):bP' D (fun _ F=>F.heap[w]? =some aQ):=fun _ _ _ h hF=>hF.blk h z
theorem ws' {B:Nat} (x:World) (z:B<=x.heap.size) (a b:Nat) (F:a < 256) (hb:b < 256):Qt B (x.alloc (.cells #[.int .u8 a, .int .u8 b] 5)) (.slice (some ⟨x.heap.size,0,none⟩) 2 2) [UInt8.ofNat (a % 256),UInt8.ofNat (b % 256)]:=by
 refine⟨by simp[bv], .inr ⟨x.heap.size,2,_,rfl,z,z19 x _,by simp,by unfold maxLen;omega,by simp,?_⟩⟩;have h1:a % 256=a:=by omega
 have h2:b % 256=b:=by omega
 simp[bv,h1,h2]
theorem fK' (o c st q:Nat) (b:z10) (w:World) (av:o < 4294967296) (ax:c < 18446744073709551616) (hs:st < 256) (aH:q < 4294967296) (hb:b.size<=20):
  Calls prog 131 #[.agg #[.int .u32 o, .int .u64 c], .agg #[.int .i64 st, .int .i64 q, .string b]] w fun r w'=>r= .returned (.agg (bv (Mq.Xc o c (Mq.Za st q b.data.toList))).toArray)/\Below w.heap.size w w':=by
 have aI:IntKind.u8.wrap (st:Int)=(st:Int):=by rw[IntKind.wrap_u8];omega
 have aJ:IntKind.u8.wrap (b.size:Int)=(b.size:Int):=by rw[IntKind.wrap_u8];omega
 have aK:IntKind.u32.wrap (q:Int)=(q:Int):=by rw[zB'];omega
 go_enter func131,ntmps131;go_upto_region 1 with fail;refine G' (fun x=>x.heap[w.heap.size]? =some (.cells #[.int .u32 o, .int .u64 c] 201 (0,0))/\x.heap[w.heap.size+1]? =some (.cells #[.int .i64 st, .int .i64 q, .string b] 155 (0,0))/\x.heap[w.heap.size+2]? =some (.cells (bv bd').toArray 207 (0,0))/\Below w.heap.size w x) ?_ ?_
 ·exact⟨(fI' _ _ _ _).1,(fI' _ _ _ _).2.1,fJ' (fI' _ _ _ _).2.2.1 (by kernel_rfl),(fI' _ _ _ _).2.2.2⟩
 rintro x ⟨h0,h1,h2,aj⟩;have aL:=z14 h2;obtain⟨c0,c1,c2⟩:=gF' h1;have ay:∀ak,(x.alloc ak).cell? ⟨w.heap.size+1,1,none⟩=some (.int .i64 q):=fun ak=>by exact(z85 x _ ⟨w.heap.size+1,1,none⟩ (by show w.heap.size+1 < _;omega)).trans c1
 have J:=m' h0;have az:=m' h1;have Y:=m' h2;have Z:=m' aj;clear h0 h1 h2 aj;have aA:=fun(v:Value) (l:List UInt8) (n:Int) (y:World) (h1:l.length<=1000) (h2:w.heap.size+3<=y.heap.size) (h3:0<=n) (h4:Qt (w.heap.size+3) y v l)=>m' (aE' (w.heap.size+3) n v l y h1 h2 h3 h4);have aa:=m' (ws' x (B:=w.heap.size+3) (by omega) st b.size hs (by omega));go_upto_region 2 with (go_at_call 135;refine(d' (aA _ _ (q:Int) _ (by simp) (by simp;omega) (by omega) (d' aa))).mono ?_;rintro r y ⟨v5,rfl,ao,z⟩);have G:Below (w.heap.size+3) x y:=((z11 _ _).alloc (by omega) _).trans (Y' z (by simp;omega) (fun g z=>((d' aa).lt g z).1));have J:=m' ((G.block _ (by omega)).trans (d' J));have ap:=(G.block (w.heap.size+1) (by omega)).trans (d' az);have Y:=m' ((G.block (w.heap.size+2) (by omega)).trans (d' Y));have Z:=m' ((d' Z).trans (G.mono (by omega)));have aM:=G.size;have ab:=m' ao;obtain⟨c0,aN⟩:=eE' (d' J);have c2:y.cell? ⟨w.heap.size+1,2,none⟩=some (.string b):=y' (i:=2) ap;clear ao z aa ay c1 ap G;have ac:(Mq.Za st q b.data.toList).length<=40:=by rw[Mq.Zv];simp;omega
 have M:(Mq.Xc o c (Mq.Za st q b.data.toList)).length=64:=Mq.Jw o c ac;obtain⟨R,O⟩:=exq (Mq.Za st q b.data.toList);rw[<-O]at ac M;have ad: [UInt8.ofNat (st % 256),UInt8.ofNat (b.size % 256)]++Qb.le4 q++b.data.toList=R:=by rw[O];simp[Mq.Za]
 have aq:=fun v y aB=>m' (qf' o c R v y av ax ac aB);obtain⟨S,ah⟩:=exq (Mq.Xc o c R);rw[<-ah]at aq M;have aC:=m' (show S=Mq.Xc o c (Mq.Za st q b.data.toList) by rw[ah,O]);have ad:=m' ad;clear ah O;have Q:=m' (fun g z=>((d' ab).lt g z).1);have ai:∀k,k < w.heap.size+2->∀p∈ ([(4,fun k=>v5.ownBlock=some k),(6,fun k=>k=w.heap.size+2)]:List (Nat× (Nat->Prop))),¬p.2 k:=by
  intro k hk p F;simp at F;rcases F with rfl|rfl
  ·intro e;have:=(d' Q) k e;omega
  ·intro e;have e:k=w.heap.size+2:=e;omega
 refine af'
  [Ev (.agg #[.int .u32 o, .int .u64 c]),Ev v5,Ep (w.heap.size+1) 2,Ev (.string b),qe' (w.heap.size+3) R,Ev (.agg (bv S).toArray),fun _ H=>H.heap[w.heap.size+2]? =some (.cells (bv S).toArray 207 (0,0))]
  [[2],[5],[3],[3020],[2019,4021],[1018,5022],[4,6023]] [19,20,21,22,23,24,0] [18,6]
  [(4,fun k=>v5.ownBlock=some k),(6,fun k=>k=w.heap.size+2)] ?_ ?_ (hst:=by repeat' (first|exact V' _|exact fb' _ _|exact ca' _ _|exact trivial|apply z12)) (hstF:=by repeat' (first|exact trivial|exact .inl rfl|exact .inr (.inr (bj' _ _))|exact .inr (.inr (mz' (fun k hk=>by omega)))|exact .inr (.inr (qh' (fun e=>by have:=(d' Q) _ e;omega)))|apply z12))
 ·refine⟨?_,?_,?_,?_,?_,?_,?_,trivial⟩;all_goals
   intro a H hb I;have z0:=hb.blk (d' J) (cJ' (ai _ (by omega)));obtain⟨d0,d1⟩:=eE' z0;have d2:H.cell? ⟨w.heap.size+1,2,none⟩=some (.string b):=by have:=hb.rest (w.heap.size+1) (by omega) (cJ' (ai _ (by omega)));unfold World.cell? at c2 ⊢;simp only at c2 ⊢;rw[this];exact c2
   have aO:=hb.size;have V:=m' hb;clear hb z0;simp[I']at I
  ·go_simp;exact⟨_,rfl,Far.refl _ _,rfl⟩
  ·go_simp;exact⟨_,rfl,Far.refl _ _,rfl⟩
  ·go_simp;exact⟨_,rfl,Far.refl _ _,rfl⟩
  ·go_simp;exact⟨_,rfl,Far.refl _ _,rfl⟩
  ·have aD:Qt (w.heap.size+3) H v5 _:=aC' (d' ab) (fun g z=>(d' V).rest g ((d' ab).lt g z).2 (by
    rintro⟨p,F,h1,_,h3⟩;simp at F;rcases F with rfl|rfl
    ·exact h1 rfl
    ·have:=(d' Q) g z;have h3:g=w.heap.size+2:=h3;omega))
   rw[if_pos (by rfl)];refine or' (.tmp 19) (.tmp 21) rfl (w.heap.size+3) v5 _ aD (by simp[Act.eval,I]) b (by simp[Act.eval,I]) (by simp[Qb.Qw];omega) (by omega) ?_;intro v' w' h1 h2;rw[show _=R from d' ad]at h1;exact⟨v',rfl,an' (.head _) (ba' h2),h1,fun g z=>(h1.lt g z).2⟩
  ·go_simp;refine(d' (aq _ H I.2.1.at)).mono ?_;rintro r w1 ⟨rfl,aE⟩;exact⟨_,rfl,C' aE,rfl⟩
  ·have aF:=(d' V).blk (d' Y) (by
    rintro⟨p,F,h1,_,h3⟩;simp at F;rcases F with rfl|rfl
    ·have:=(d' Q) _ h3;omega
    ·exact h1 rfl)
   rw[if_pos (by rfl)];refine kS' (.tmp 4) (.tmp 23) rfl (w.heap.size+2) (by simp[Act.eval,I]) S M (by simp[Act.eval,I]) 207 _ (by simp[Z',aA']) aF ?_;intro w' h1 h2;exact⟨_,rfl,an' (.tail _ (.head _)) h2,h1⟩
 ·intro f H hF au;have aG:=au.2.2.2.2.2.2.1;have V:=m' ((d' Z).trans (hF.below (by omega) (fun k hk h=>by obtain⟨p,F,h3⟩:=h;exact ai k (by omega) p F h3)));clear au hF;simp only[O'];go_simp;go_wp2;exact z50 (ex' results131 _ _ (w.heap.size+2) _ _ M rfl aG) rfl ⟨by rw[d' aC],d' V⟩
theorem mA' {K:Act->World->Prop} (d s:Operand)
  (M:N.op= .call {callee:= .builtin .copy,args:= #[d,s],argTypes:= #[44,44]}) (g off n cap m:Nat) (z:Array Value) (F:List Value) (t:TypeId) (b G H:Nat)
  (J:p.heap[g]? =some (.cells z t (0,0))) (hd:I.eval d= .slice (some ⟨g,off,none⟩) n cap) (hs:I.eval s= .slice (some ⟨b,G,none⟩) m H) (O:F.length=m) (Q:∀j v,F[j]? =some v->p.cell? ⟨b,G+j,none⟩=some v) (hl:m<=n) (V:off+m<=z.size) (h1:∀v∈F,v.oneCell'=true)
  (h:∀w',w'.heap[g]? =some (.cells (z.toList.take off++(F++z.toList.drop (off+m))).toArray t (0,0))->Far (fun k=>k=g) p w'->K (I.put N.dst (.int .i64 m)) w'):N.wp prog I p K Z:=by
 subst O;have Y:=run_copy_row (P:=prog) p 44 44 N.type 5 g off n cap ⟨b,G,none⟩ F.length H z t F underlying44 tH' J (xS' hl).symm (by intro j u hj;rw[dG'];exact Q j u hj) V h1;unfold Oper.wp;simp[execOp,M,resolve,invoke,builtin,hd,hs,Y,Result.andThen];exact h _ (z92 p g z _ t (0,0) J) ⟨rfl,rfl,rfl,by simp,fun k _ hk=>pu' p g k _ hk⟩
theorem uF' (w:World) (k:Nat) (S L:List UInt8) (lv:Value) (F:S.length=64) (hk:64 * k+64<=L.length) (ad:L.length<=10000) (ah:w.ownsRow 0 5 1 lv L.length (bv L)):
  Calls prog 193 #[.agg (.int .i64 k::bv S).toArray,lv] w fun r w'=>r= .returned (.tuple #[])/\w'.ownsRow 0 5 1 lv (Mq.Xa L k S).length (bv (Mq.Xa L k S))/\Far (fun j=>lv.ownBlock=some j) w w':=by
 have I:=Mq.Jv (l:=L) (k:=k) F hk;obtain⟨h1,h2⟩:=ah;rcases h2 with ⟨_,h2⟩|⟨g,cap,z,rfl,aB,J,hn,ai,hs,M⟩
 ·omega
 have aj:=z14 J;obtain⟨n,O⟩:=exq (L.length);rw[<-O]at hk ad h1 hn M I ⊢;have i0:(0:Int)<=(k:Int) * 64:=by omega
 have aC:(k:Int) * 64<=(n:Int):=by omega
 have aD:((k:Int) * 64).toNat=k * 64:=by omega
 have aE:(n:Int)<=(cap:Int):=by omega
 have aF:IntKind.i64.wrap ((k:Int) * 64)=(k:Int) * 64:=by rw[z36];omega
 have aG:¬cap=k * 64:=by omega
 have aH:¬ (cap:Int)=(k:Int) * 64:=by omega
 have aI:=m' O;have Q:=m' I;have ak:=m' M;have ao:=m' J;clear O I M J;go_enter func193,ntmps193;go_upto_region 1 with fail;refine G' (fun x=>x.heap[w.heap.size]? =some (.cells (.int .i64 k::bv S).toArray 261 (0,0))/\Below w.heap.size w x) ⟨z19 w _,(z11 _ _).alloc (z13 _) _⟩ ?_;rintro x ⟨h0,Y⟩;have c0:x.cell? ⟨w.heap.size,0,none⟩=some (.int .i64 k):=by rw[y' h0];simp
 have V:=z14 h0;have ap:=m' h0;have G:=m' Y;clear h0 Y;refine ab'
  [Ev (.slice (some ⟨g,0,none⟩) n cap),Ep w.heap.size 0,Ei k,Ei ((k:Int) * 64),Ev (.slice (some ⟨g,k * 64,none⟩) (n - k * 64) (cap - k * 64)),Ep w.heap.size 1,Ev (.slice (some ⟨w.heap.size,1,none⟩) 64 64),Et]
  [[1],[2],[2005],[3006],[1004,4007],[2],[6009],[5008,7010]] [5,6,7,8,9,10,11,12] [4,8]
  7 _ rfl rfl ?_ ?_
 ·refine⟨?_,?_,?_,?_,?_,?_,?_,trivial⟩;all_goals
   intro a y hb aq;have aJ:=(hb.cell (p:=⟨w.heap.size,0,none⟩) (by show w.heap.size < _;omega)).trans c0;have au:=hb.size;clear hb;simp[I']at aq;try go_simp
   try exact z11 _ _
 ·intro f y hb H;simp only[ag',List.take]at H;have Z:=H.2.2.2.2.1;have aa:=H.2.2.2.2.2.2.1;simp only[O',Z,aa];have g0:=(hb.block _ (by show w.heap.size < _;omega)).trans (d' ap);have ab:=(hb.block g (by have:=(d' G).size;omega)).trans (((d' G).block g aj).trans (d' ao));have av:=m' ((d' G).trans (hb.mono (by have:=(d' G).size;omega)));have au:=hb.size;refine mA' (.tmp 8) (.tmp 10) rfl g (k * 64) (n - k * 64) (cap - k * 64) 64 z (bv S) 5 w.heap.size 1 64 ab rfl rfl (by rw[Z',F]) ?_ (by omega) (by omega) (dg' S) ?_
  ·intro j v hj;rw[y' g0,yb',ze' 1 j,wn'];exact hj
  ·intro aK V hF;have ax:((z.toList.take (k * 64)++(bv S++z.toList.drop (k * 64+64))).toArray).toList.take (n * 1)=bv (Mq.Xa L k S):=by have ac:(z.toList.take (k * 64)).length=k * 64:=(by rw[z71,zj'];omega);have ay:bv (Mq.Xa L k S)=(bv L).take (64 * k)++(bv S++(bv L).drop (64 * k+64)):=(by simp[Mq.Xa,bv,List.map_take,List.map_drop]);rw[List.toList_toArray,ay,<-d' ak,zb',vL',zo',zC',zC',ac,Z',F,z46 (l:=z.toList.take (k * 64)) (by rw[ac];omega),z46 (l:=bv S) (by rw[Z',F];omega)];rw[show min (64 * k) n=k * 64 by omega,show 64 * k+64=k * 64+64 by omega,show n - k * 64 - 64=n - (k * 64+64) by omega]
   have az:=m' V;have aA:=m' hF;clear hb H Z aa g0 ab V hF c0;go_simp;go_wp2;refine z77 (z65 rfl _ _ _) rfl ?_;refine⟨rfl,⟨by rw[Z'];omega, .inr ⟨g,cap,_,by rw[d' Q],z54 _,d' az,by rw[d' Q];omega,ai,by simp[Z'];omega,by rw[d' Q];exact ax⟩⟩,?_⟩;exact(C' (E:=fun j=>(Value.slice (some ⟨g,0,none⟩) n cap).ownBlock=some j) (d' av)).trans (d' aA) (fun j _ e=>by rw[e];rfl)
structure Yd (w:World) (p:Nat) (d:Mq.Dk) (lv uv:Value):Prop where
 blk:w.heap[p]? =some (.cells #[lv,uv, .int .i64 d.Zo, .bool d.dead] 252 (0,0))
 row:w.ownsRow 0 5 1 lv d.bytes.length (bv d.bytes)
 un:Qi w 261 65 uv 0 []
 len:128<=d.bytes.length/\d.bytes.length<=10000
 arm:d.Zo<=9223372036854775807
def DkU (p:Nat) (lv z:Value) (k:Nat):Prop:=k=p\/lv.ownBlock=some k\/z.ownBlock=some k
theorem Yd.far {E:Nat->Prop} {w x:World} {p:Nat} {d:Mq.Dk} {lv F:Value} (h:Yd w p d lv F) (G:Far E w x) (H:∀k,DkU p lv F k->¬E k):Yd x p d lv F:=
 ⟨G.blk h.blk (H p (.inl rfl)),aC' h.row (fun g z=>G.rest g (z15 h.row g z).2 (H g (.inr (.inl z)))),h.un.far G (fun g z=>H g (.inr (.inr z))),h.len,h.arm⟩
variable{cB:Mq.Dk}{f:Value}
theorem Yd.lt {w:World} {p:Nat} (h:Yd w p cB c f):∀k,DkU p c f k->k < w.heap.size:=by
 rintro k (rfl|hk|hk)
 ·exact z14 h.blk
 ·exact(z15 h.row k hk).2
 ·exact h.un.lt k hk
theorem kV' (w:World) (p:Nat) (lv F:Value) (n:Int) (k:Nat) (S:List UInt8) (hb:w.heap[p]? =some (.cells #[lv,F, .int .i64 n, .bool true] 252 (0,0))):
  Calls prog 182 #[.pointer (some ⟨p,0,none⟩), .int .i64 k, .agg (bv S).toArray] w fun r w'=>r= .returned (.int .i64 3)/\Below w.heap.size w w':=by
 have G:=z14 hb;have c3:∀z,(w.alloc z).cell? ⟨p,3,none⟩=some (.bool true):=fun z=>(z85 w _ ⟨p,3,none⟩ G).trans (y' (i:=3) hb);clear hb;go_enter func182,ntmps182;go_wp2;go_ret;exact⟨rfl,(z11 _ _).alloc (z13 _) _⟩
theorem kW' (w:World) (p:Nat) (lv G:Value) (k:Nat) (S:List UInt8) (hb:w.heap[p]? =some (.cells #[lv,G, .int .i64 1, .bool false] 252 (0,0))):
  Calls prog 182 #[.pointer (some ⟨p,0,none⟩), .int .i64 k, .agg (bv S).toArray] w fun r w'=>r= .returned (.int .i64 4)/\w'.heap[p]? =some (.cells #[lv,G, .int .i64 1, .bool true] 252 (0,0))/\Far (fun j=>j=p) w w':=by
 have H:=z14 hb;have F:∀z,(w.alloc z).heap[p]? =some (.cells #[lv,G, .int .i64 1, .bool false] 252 (0,0)):=fun z=>(hao _ _ H).trans hb;have c3:∀z,(w.alloc z).cell? ⟨p,3,none⟩=some (.bool false):=fun z=>y' (i:=3) (F z);have c2:∀z,(w.alloc z).cell? ⟨p,2,none⟩=some (.int .i64 1):=fun z=>y' (i:=2) (F z);have f3:∀z,(w.alloc z).frozen? ⟨p,3,none⟩=false:=fun z=>H' (i:=3) (F z);clear F;replace hb:=m' hb;go_enter func182,ntmps182;go_wp2;go_ret;refine⟨rfl,?_,?_⟩
 ·rw[hao _ _ (by rw[z79];exact H)];have:=aa' (j:=3) (v:= .bool true) (d' hb);simpa using this
 ·exact(Q' w p 3 _).trans (C' ((z11 _ _).alloc (z13 _) _)) (fun _ _ h=>h)
end Go.Proofs.YtamafdcnbcoegaaGreat
namespace Go.Proofs.YtamafdcnbcoegaaGreat
attribute [local simp, local go_sem] Ev Ep Ei Eb Et
open Go.RowKit Go.Proofs.Tryz
open Go.MapKept
def Xd (w:World) (b:Nat) (f:Int->Option Value):Prop:=
 ∃z F,w.heap[b]? =some (.map z F)/\(∀x∈z.toList,IsKey (.int .i64) x.key)/\(z.toList.map (·.key)).Nodup/\
  ∀ (k:Int) (v:Value),f k=some v↔ ∃x∈z.toList,x.key= .int .i64 k/\x.val=v
theorem Xd.keep {w w':World} {b:Nat} {f:Int->Option Value} (h:Xd w b f) (hk:w'.heap[b]? =w.heap[b]?):Xd w' b f:=by
 obtain⟨z,F,hb,r⟩:=h;exact⟨z,F,hk.trans hb,r⟩
theorem Xd.lt {w:World} {b:Nat} {f:Int->Option Value} (h:Xd w b f):b < w.heap.size:=by
 obtain⟨z,F,hb,r⟩:=h;exact(z21.1 hb).1
variable{p:World}{w:Nat}{aV:Int -> Option Value}{l:Array Value}{j:TypeId}{aN:Nat×Nat}
theorem Xd.Qy (h:Xd p w aV) (z:p.heap[w]? =some (.cells l j aN)):False:=by
 obtain⟨F,G,hb,r⟩:=h;rw[hb]at z;cases z
theorem gi' (w:World):Xd (w.alloc (.map #[] 0)) w.heap.size fun _=>none:=
 ⟨#[],0,z19 w _,by simp,by simp,by simp⟩
def jU' (w:World) (v:Value) (f:Int->Option Value):Prop:=(v= .map none/\f=fun _=>none)\/∃b,v= .map (some b)/\Xd w b f
def be':Value->Option Nat
 | .map b=>b
 | _=>none
variable{c:Value}
theorem jU'.keep {w w':World} (h:jU' w c aV) (hk:∀b,be' c=some b->w'.heap[b]? =w.heap[b]?):jU' w' c aV:=by
 rcases h with h|⟨b,rfl,h⟩
 ·exact .inl h
 ·exact .inr ⟨b,rfl,h.keep (hk b rfl)⟩
theorem jU'.lt {w:World} (h:jU' w c aV):∀b,be' c=some b->b < w.heap.size:=by
 intro b hb;rcases h with ⟨rfl,_⟩|⟨z,rfl,h⟩
 ·cases hb
 ·cases hb;exact h.lt
theorem eI' (k:Int):IsKey (.int .i64) (.int .i64 k):=by simp[IsKey]
variable{bF:List MapEntry}
theorem iK' (hk:∀x∈bF,IsKey (.int .i64) x.key) (z:∀ (k:Int) (v:Value),aV k=some v↔ ∃x∈bF,x.key= .int .i64 k/\x.val=v) (k:Int):
  (Instr.findNow (.int .i64) (.int .i64 k) bF 0=some none/\aV k=none/\∀x∈bF,x.key≠ .int .i64 k)\/
  ∃j e,Instr.findNow (.int .i64) (.int .i64 k) bF 0=some (some (j,e.val))/\bF[j]? =some e/\e.key= .int .i64 k/\aV k=some e.val:=by
 rcases findNow_spec (eI' k) bF 0 hk with ⟨h1,h2⟩|⟨j,e,h1,h2,h3⟩
 ·refine .inl ⟨h1,?_,h2⟩;cases F:aV k with
  |none=>rfl
  |some v=>obtain⟨x,G,H,_⟩:=(z k v).1 F;exact absurd H (h2 x G)
 ·exact .inr ⟨j,e,by rw[h1];simp,h2,h3,(z k e.val).2 ⟨e,z72 h2,h3,rfl⟩⟩
variable{f:Value}
theorem bw' {P:Program} {w:World} {t K:TypeId} (z:P.underlying t=some (.map K j)) (hK:P.underlying K=some (.int .i64)) (F:(zeroValue j).run P w= .ok c w) (h:jU' w f aV) (k:Int):
  (Instr.lookup t f (.int .i64 k) true).run P w= .ok (.tuple #[(aV k).getD c, .bool (aV k).isSome]) w/\(Instr.lookup t f (.int .i64 k) false).run P w= .ok ((aV k).getD c) w:=by
 rcases h with ⟨rfl,rfl⟩|⟨b,rfl,H,I,hb,hk,hn,G⟩
 ·have h1:Instr.findNow (.int .i64) (.int .i64 k) [] 0=some none:=rfl;constructor <;> simp[Instr.lookup,run_underlying z,run_checkKey hK (eI' k),run_findKey hK h1,F,Result.andThen]
 ·rcases iK' hk G k with ⟨h1,h2,_⟩|⟨J,e,h1,h2,h3,h4⟩
  ·constructor <;> simp[Instr.lookup,run_underlying z,MapKept.run_getObj_map hb,run_checkKey hK (eI' k),run_findKey hK h1,F,h2,Result.andThen]
  ·constructor <;> simp[Instr.lookup,run_underlying z,MapKept.run_getObj_map hb,run_checkKey hK (eI' k),run_findKey hK h1,h4,Result.andThen]
def jV' (f:Int->Option Value) (k:Int) (v:Value):Int->Option Value:=fun j=>if j=k then some v else f j
def mB' (f:Int->Option Value) (k:Int):Int->Option Value:=fun j=>if j=k then none else f j
variable{cU:MapEntry}{M:Int}
theorem wt' (hn:(bF.map (·.key)).Nodup) (hk:∀x∈bF,IsKey (.int .i64) x.key) (Z:∀ (M:Int) (v:Value),aV M=some v↔ ∃x∈bF,x.key= .int .i64 M/\x.val=v) (hj:bF[w]? =some cU) (V:cU.key= .int .i64 M) (v:Value):
  (∀x∈bF.set w {cU with key:= .int .i64 M,val:=v},IsKey (.int .i64) x.key)/\((bF.set w {cU with key:= .int .i64 M,val:=v}).map (·.key)).Nodup/\
   ∀ (J:Int) (v':Value),jV' aV M v J=some v'↔ ∃x∈bF.set w {cU with key:= .int .i64 M,val:=v},x.key= .int .i64 J/\x.val=v':=by
 have I:w < bF.length:=(z28.1 hj).1;have aa:(bF.set w {cU with key:= .int .i64 M,val:=v}).map (·.key)=bF.map (·.key):=by
  rw[List.map_set];apply z94;intro i;rw[z99];by_cases O:w=i
  ·subst O;have:=mq' ((z18 I).symm.trans hj);simp[I,this,V]
  ·simp[O]
 have ab:∀ (i:Nat) (x:MapEntry),bF[i]? =some x->x.key= .int .i64 M->i=w:=by
  intro i x hi z;by_cases O:i=w
  ·exact O
  ·have F:i < bF.length:=(z28.1 hi).1;have h0:=List.getElem_inj (xs:=bF.map (·.key)) (i:=i) (j:=w) (h₀:=by simpa using F) (h₁:=by simpa using I) hn;have ac:(bF.map (·.key))[i]'(by simpa using F)= .int .i64 M:=by rw[xI',<-z];congr 1;rw[z18 F]at hi;exact mq' hi
   have ad:(bF.map (·.key))[w]'(by simpa using I)= .int .i64 M:=by rw[xI',<-V];congr 1;rw[z18 I]at hj;exact mq' hj
   exact h0.1 (ac.trans ad.symm)
 refine⟨fun x z=>?_,aa ▸ hn,fun J v'=>?_⟩
 ·rcases wb' z with h|h
  ·exact hk x h
  ·subst h;exact eI' M
 ·unfold jV';by_cases Q:J=M
  ·subst Q;rw[if_pos rfl];constructor
   ·rintro⟨⟩;exact⟨_,List.mem_set I _,rfl,rfl⟩
   ·rintro⟨x,z,G,rfl⟩;obtain⟨i,hi,H⟩:=zE' z;rw[List.getElem_set]at H;split at H
    ·rw[<-H]
    ·rename_i Y;have F:i < bF.length:=by simpa using hi
     exact absurd (ab i x (by rw[z18 F,H]) G).symm Y
  ·rw[if_neg Q,Z];constructor
   ·rintro⟨x,z,G,rfl⟩;obtain⟨i,F,H⟩:=zE' z;have Y:¬w=i:=by rintro rfl;rw[z18 F,H]at hj;cases hj;rw[V]at G;injection G with _ h;exact Q h.symm
    refine⟨x,?_,G,rfl⟩;have:=List.getElem_set_ne Y (a:={cU with key:= .int .i64 M,val:=v}) (hj:=by simpa using F);rw[<-H,<-this];exact z81 _
   ·rintro⟨x,z,G,rfl⟩;rcases wb' z with h|h
    ·exact⟨x,h,G,rfl⟩
    ·subst h;injection G with _ h;exact absurd h.symm Q
theorem dQ' {P:Program} {w:World} {t K E:TypeId} (V:P.underlying t=some (.map K E)) (hK:P.underlying K=some (.int .i64)) {b:Nat} {f:Int->Option Value} (h:Xd w b f) (k:Int) (v:Value):
  ∃o,(∀y:World,y.heap=w.heap->(Instr.mapUpdate t (.map (some b)) (.int .i64 k) v).run P y= .ok () {y with heap:=y.heap.setIfInBounds b o})/\Xd {w with heap:=w.heap.setIfInBounds b o} b (jV' f k v):=by
 obtain⟨F,G,hb,hk,hn,I⟩:=h;have ac:b < w.heap.size:=(z21.1 hb).1;have Y:∀o,({w with heap:=w.heap.setIfInBounds b o}:World).heap[b]? =some o:=fun o=>by simp[ac]
 rcases iK' hk I k with ⟨h1,h2,h3⟩|⟨j,e,h1,h2,h3,h4⟩
 ·refine⟨.map (F.push ⟨.int .i64 k,v,G⟩) (G+1),?_,F.push ⟨.int .i64 k,v,G⟩,G+1,Y _,?_,?_,?_⟩
  ·intro y J;have hb:y.heap[b]? =some (.map F G):=by rw[J];exact hb
   simp[Instr.mapUpdate,run_underlying V,MapKept.run_getObj_map hb,run_checkKey hK (eI' k),run_findKey hK h1,run_setObj_map _ hb,Result.andThen]
  ·intro x z;simp only[Array.toList_push,List.mem_append,List.mem_singleton]at z;rcases z with z|rfl
   ·exact hk x z
   ·exact eI' k
  ·simp only[Array.toList_push,List.map_append,List.map_cons,List.map_nil];rw[oh'];refine⟨hn,by simp,?_⟩;rintro a ad c Z rfl;simp only[List.mem_singleton]at Z;obtain⟨x,z,rfl⟩:=z63.1 ad;exact h3 x z Z
  ·intro ah v';unfold jV';simp only[Array.toList_push,List.mem_append,List.mem_singleton];by_cases M:ah=k
   ·subst M;rw[if_pos rfl];constructor
    ·rintro⟨⟩;exact⟨_, .inr rfl,rfl,rfl⟩
    ·rintro⟨x,z|rfl,H,rfl⟩
     ·exact absurd H (h3 x z)
     ·rfl
   ·rw[if_neg M,I];constructor
    ·rintro⟨x,z,r⟩;exact⟨x, .inl z,r⟩
    ·rintro⟨x,z|rfl,H,r⟩
     ·exact⟨x,z,H,r⟩
     ·injection H with _ h;exact absurd h.symm M
 ·have hj:F[j]? =some e:=by simpa using h2
  have O:(F.modify j (fun Q=>{Q with key:= .int .i64 k,val:=v})).toList=F.toList.set j {e with key:= .int .i64 k,val:=v}:=by
   rw[Array.toList_modify];apply z94;intro i;rw[z99,List.getElem?_modify];by_cases aa:j=i
   ·subst aa;have ab:j < F.toList.length:=(z28.1 h2).1;rw[h2];simp at ab;simp[ab]
   ·simp[aa]
  have hs:∀w,(Instr.keyThatStays (.int .i64 k) (.int .i64 k)).run P w= .ok (.int .i64 k) w:=fun w=>by simp[Instr.keyThatStays,Instr.sameBits]
  obtain⟨g1,g2,ai⟩:=wt' hn hk I h2 h3 v;refine⟨.map (F.modify j (fun Q=>{Q with key:= .int .i64 k,val:=v})) G,?_,_,G,Y _,?_,?_,?_⟩
  ·intro y J;have hb:y.heap[b]? =some (.map F G):=by rw[J];exact hb
   simp[Instr.mapUpdate,run_underlying V,MapKept.run_getObj_map hb,run_checkKey hK (eI' k),run_findKey hK h1,hj,h3,hs,run_setObj_map _ hb,Result.andThen]
  ·rw[O];exact g1
  ·rw[O];exact g2
  ·rw[O];exact ai
theorem fc' {P:Program} {w:World} {t K E K':TypeId} (Z:P.underlying t=some (.map K E)) (hK:P.underlying K=some (.int .i64)) {b:Nat} {f:Int->Option Value} (h:Xd w b f) (k:Int):
  ∃o,(∀ (ty:TypeId) (y:World),y.heap=w.heap->(Builtin.delete_ #[t,K'] ty #[.map (some b), .int .i64 k]).run P y= .ok (.tuple #[]) {y with heap:=y.heap.setIfInBounds b o})/\Xd {w with heap:=w.heap.setIfInBounds b o} b (mB' f k):=by
 obtain⟨z,H,hb,hk,hn,J⟩:=h;have ac:b < w.heap.size:=(z21.1 hb).1;have aa:∀o,({w with heap:=w.heap.setIfInBounds b o}:World).heap[b]? =some o:=fun o=>by simp[ac]
 rcases iK' hk J k with ⟨h1,h2,h3⟩|⟨j,e,h1,h2,h3,h4⟩
 ·refine⟨.map z H,?_,z,H,aa _,hk,hn,?_⟩
  ·intro ty y M;have hb:y.heap[b]? =some (.map z H):=by rw[M];exact hb
   simp[Builtin.delete_,run_underlying Z,MapKept.run_getObj_map hb,run_checkKey hK (eI' k),run_findKey hK h1,run_setObj_map _ hb,Result.andThen]
  ·intro O v';unfold mB';by_cases I:O=k
   ·subst I;rw[if_pos rfl];constructor
    ·rintro⟨⟩
    ·rintro⟨x,F,G,_⟩;exact absurd G (h3 x F)
   ·rw[if_neg I,J]
 ·have Q:j < z.toList.length:=(z28.1 h2).1;have V:(z.eraseIdxIfInBounds j).toList=z.toList.eraseIdx j:=by have:j < z.size:=(by simpa using Q);unfold Array.eraseIdxIfInBounds;rw[dif_pos this,Array.toList_eraseIdx]
  have Y:(z.toList.eraseIdx j).Sublist z.toList:=List.eraseIdx_sublist _ _;have ad:∀x∈z.toList.eraseIdx j,x.key≠ .int .i64 k:=by intro x F G;obtain⟨i,ah,hi⟩:=Ao'.1 F;have ab:i < z.toList.length:=(z28.1 hi).1;have h0:=List.getElem_inj (xs:=z.toList.map (·.key)) (i:=i) (j:=j) (h₀:=by simpa using ab) (h₁:=by simpa using Q) hn;refine ah (h0.1 ?_);rw[xI',xI'];rw[z18 ab]at hi;rw[z18 Q]at h2;rw[mq' hi,mq' h2,G,h3]
  refine⟨.map (z.eraseIdxIfInBounds j) H,?_,_,H,aa _,?_,?_,?_⟩
  ·intro ty y M;have hb:y.heap[b]? =some (.map z H):=by rw[M];exact hb
   simp[Builtin.delete_,run_underlying Z,MapKept.run_getObj_map hb,run_checkKey hK (eI' k),run_findKey hK h1,run_setObj_map _ hb,Result.andThen]
  ·rw[V];exact fun x F=>hk x (Y.subset F)
  ·rw[V];exact(Y.map _).nodup hn
  ·rw[V];intro O v';unfold mB';by_cases I:O=k
   ·subst I;rw[if_pos rfl];constructor
    ·rintro⟨⟩
    ·rintro⟨x,F,G,_⟩;exact absurd G (ad x F)
   ·rw[if_neg I,J];constructor
    ·rintro⟨x,F,G,r⟩;obtain⟨i,hi⟩:=List.getElem?_of_mem F;refine⟨x,Ao'.2 ⟨i,?_,hi⟩,G,r⟩;rintro rfl;rw[h2]at hi;cases hi;rw[h3]at G;injection G with _ h;exact I h.symm
    ·rintro⟨x,F,r⟩;exact⟨x,Y.subset F,r⟩
theorem fL' {P:Program} {w:World} {t K E:TypeId} (F:P.underlying t=some (.map K E)) {b:Nat} {f:Int->Option Value} (h:Xd w b f):
  ∃o,(∀ (ty:TypeId) (y:World),y.heap=w.heap->(Builtin.clear_ #[t] ty #[.map (some b)]).run P y= .ok (.tuple #[]) {y with heap:=y.heap.setIfInBounds b o})/\Xd {w with heap:=w.heap.setIfInBounds b o} b (fun _=>none):=by
 obtain⟨G,z,hb,hk,hn,J⟩:=h;have H:b < w.heap.size:=(z21.1 hb).1;refine⟨.map #[] z,?_,#[],z,by simp[H],by simp,by simp,by simp⟩;intro ty y I;have hb:y.heap[b]? =some (.map G z):=by rw[I];exact hb
 simp[Builtin.clear_,run_underlying F,MapKept.run_getObj_map hb,run_setObj_map _ hb,Result.andThen]
theorem ci' {w:World} (b:Nat) (o:Obj):Far (fun k=>k=b) w {w with heap:=w.heap.setIfInBounds b o}:=
 ⟨rfl,rfl,rfl,by simp,fun k _ z=>by show(w.heap.setIfInBounds b o)[k]? = _;rw[z16 (fun e=>z e.symm)]⟩
variable{bG:TypeId}
theorem fM' {P:Program} {w:World} {t K:TypeId} (z:P.underlying t=some (.map K j)):(Builtin.clear_ #[t] bG #[.map none]).run P w= .ok (.tuple #[]) w:=by
 simp[Builtin.clear_,run_underlying z,Result.andThen]
end Go.Proofs.YtamafdcnbcoegaaGreat
namespace Go.Proofs
open Go.Shelf
open Go.RowKit in
def Tryz.laysM316_ren:Go.Shelf.Ren:=⟨fun|316=>134|n=>n,fun|9=>9|3=>3|4=>4|37=>44|0=>0|127=>256|5=>5|n=>n,fun|n=>n⟩
theorem Tryz.laysM316:Go.Proofs.LaysM.n316 prog Tryz.laysM316_ren:={
 mixed:=by kernel_rfl
 f316:=func134.trans (congrArg some (by kernel_rfl))
 t0:=underlying0
 a0:=isAgg0
 z0:=sizeOf0
 v0:=zeroValue0
 t3:=underlying3
 a3:=isAgg3
 z3:=sizeOf3
 v3:=zeroValue3
 t4:=underlying4
 a4:=isAgg4
 z4:=sizeOf4
 v4:=zeroValue4
 t9:=underlying9
 a9:=isAgg9
 z9:=sizeOf9
 v9:=zeroValue9
 t37:=underlying44
 a37:=isAgg44
 z37:=sizeOf44
 v37:=zeroValue44
 t127:=underlying256
 a127:=isAgg256
 z127:=sizeOf256
 v127:=zeroValue256
 t5:=underlying5
 a5:=isAgg5
 z5:=sizeOf5
 v5:=zeroValue5
 i0:=by kernel_rfl
 i3:=by kernel_rfl
 i4:=by kernel_rfl
 i5:=by kernel_rfl
 i9:=by kernel_rfl
 i37:=by kernel_rfl
 i127:=by kernel_rfl}
open Go.RowKit in
theorem Tryz.stringslite_Clone (s:ByteArray) (w:World) (z:s.size<=281474976710656):
  Calls prog 134 #[.string s] w fun e w'=>e= .returned (.string s)/\Below w.heap.size w w':=Any.stringslite_Clone Tryz.laysM316 s w z
open Go.RowKit Go.Proofs.Tryz Go.Lib Go.Sort in
open Go.RowKit Go.Proofs.Tryz Go.Lib Go.Sort in
open Go.RowKit Go.Proofs.Tryz Go.Lib Go.Sort in
def Tryz.laysNm216_ren:Go.Shelf.Ren:=⟨fun|16=>100|n=>n,fun|24=>45|9=>9|4=>4|n=>n,fun|n=>n⟩
theorem Tryz.laysNm216:Go.Proofs.Lays2.n16 prog Tryz.laysNm216_ren:={
 mixed:=by kernel_rfl
 f16:=func100.trans (congrArg some (by kernel_rfl))
 t4:=underlying4
 a4:=isAgg4
 z4:=sizeOf4
 v4:=zeroValue4
 t9:=underlying9
 a9:=isAgg9
 z9:=sizeOf9
 v9:=zeroValue9
 t24:=underlying45
 a24:=isAgg45
 z24:=sizeOf45
 v24:=zeroValue45
 i9:=by kernel_rfl}
open Go.RowKit Go.Proofs.Tryz Go.Lib in
theorem Tryz.slices_Clone_string (b off n c:Nat) (z:List ByteArray) (w:World) (F:n<=z.length) (G:n * 16<=140737488355328) (H:∀j,j < z.length->w.cell? ⟨b,off+j,none⟩=some (.string (z.getD j ByteArray.empty))):
  Calls prog 100 #[.slice (some ⟨b,off,none⟩) n c] w fun e w'=>∃v',e= .returned v'/\w'.ownsRow w.heap.size 9 1 v' n ((z.take n).map (Value.string))/\v'≠ .slice none 0 0/\Below w.heap.size w w':=Any.slices_Clone_string Tryz.laysNm216 b off n c z w F G H
open Go.RowKit Go.Proofs.Tryz Go.Lib in
theorem Tryz.slices_Clone_string_nil (n c:Nat) (w:World):
  Calls prog 100 #[.slice none n c] w fun e w'=>e= .returned (.slice none 0 0)/\w'=w:=Any.slices_Clone_string_nil Tryz.laysNm216 n c w
open Go.RowKit Go.Proofs.Tryz Go.Lib in
open Go.RowKit Go.Proofs.Tryz Go.Lib in
open Go.RowKit Go.Proofs.Tryz Go.Lib in
open Go.RowKit Go.Proofs.Tryz Go.Lib in
def Tryz.laysNm225_ren:Go.Shelf.Ren:=⟨fun|25=>132|31=>185|32=>186|37=>217|n=>n,fun|22=>26|3=>3|4=>4|40=>198|0=>0|n=>n,fun|n=>n⟩
theorem Tryz.laysNm225:Go.Proofs.Lays2.n25 prog Tryz.laysNm225_ren:={
 mixed:=by kernel_rfl
 f25:=func132.trans (congrArg some (by kernel_rfl))
 f31:=func185.trans (congrArg some (by kernel_rfl))
 f32:=func186.trans (congrArg some (by kernel_rfl))
 f37:=func217.trans (congrArg some (by kernel_rfl))
 t0:=underlying0
 a0:=isAgg0
 z0:=sizeOf0
 v0:=zeroValue0
 t3:=underlying3
 a3:=isAgg3
 z3:=sizeOf3
 v3:=zeroValue3
 t4:=underlying4
 a4:=isAgg4
 z4:=sizeOf4
 v4:=zeroValue4
 t22:=underlying26
 a22:=isAgg26
 z22:=sizeOf26
 v22:=zeroValue26
 t40:=underlying198
 a40:=isAgg198
 z40:=sizeOf198
 v40:=zeroValue198}
open Go.RowKit Go.Proofs.Tryz Go.Lib in
theorem Tryz.slices_BinarySearch_int (b off n c:Nat) (z:List Int) (x:Int) (w:World) (F:n<=z.length) (G:n < 4611686018427387904) (H:∀j,j < z.length->w.cell? ⟨b,off+j,none⟩=some (.int .i64 (z.getD j 0))) (hs:(z.take n).Pairwise (· <= ·)):
  Calls prog 132 #[.slice (some ⟨b,off,none⟩) n c, .int .i64 x] w fun e w'=>e= .returned (.tuple #[.int .i64 ((z.take n).countP (· < x):Nat), .bool ((z.take n).contains x)])/\∃q,w'=w.drewN q:=Any.slices_BinarySearch_int Tryz.laysNm225 b off n c z x w F G H hs
def Tryz.laysNm223_ren:Go.Shelf.Ren:=⟨fun|23=>221|n=>n,fun|22=>26|3=>3|4=>4|0=>0|n=>n,fun|n=>n⟩
theorem Tryz.laysNm223:Go.Proofs.Lays2.n23 prog Tryz.laysNm223_ren:={
 mixed:=by kernel_rfl
 f23:=func221.trans (congrArg some (by kernel_rfl))
 t0:=underlying0
 a0:=isAgg0
 z0:=sizeOf0
 v0:=zeroValue0
 t3:=underlying3
 a3:=isAgg3
 z3:=sizeOf3
 v3:=zeroValue3
 t4:=underlying4
 a4:=isAgg4
 z4:=sizeOf4
 v4:=zeroValue4
 t22:=underlying26
 a22:=isAgg26
 z22:=sizeOf26
 v22:=zeroValue26
 i3:=by kernel_rfl}
open Go.RowKit Go.Proofs.Tryz Go.Lib Go.Sort in
open Go.RowKit Go.Proofs.Tryz Go.Lib Go.Sort in
open Go.RowKit Go.Proofs.Tryz Go.Lib Go.Sort in
open Go.RowKit Go.Proofs.Tryz Go.Lib Go.Sort in
theorem Tryz.slices_Delete_int_cells (b off n c i j:Nat) (z:List Int) (w:World) (F:n<=z.length) (G:n<=c) (H:c<=9223372036854775807) (I:i<=j) (hj:j<=n) (J:∀j,j < z.length->w.cell? ⟨b,off+j,none⟩=some (.int .i64 (z.getD j 0))) (M:∀j,j < n->w.frozen? ⟨b,off+j,none⟩=false):
  Calls prog 221 #[.slice (some ⟨b,off,none⟩) n c, .int .i64 i, .int .i64 j] w fun e w'=>e= .returned (.slice (some ⟨b,off,none⟩) (n - (j - i)) c)/\∃q,w'=(w.drewN q).setCells b off (((z.take n).take i++(z.take n).drop j++List.replicate (j - i) 0).map (Value.int .i64)):=Any.slices_Delete_int_cells Tryz.laysNm223 b off n c i j z w F G H I hj J M
open Go.RowKit Go.Proofs.Tryz Go.Lib in
theorem Tryz.slices_BinarySearch_int_empty (a:Option Addr) (c:Nat) (x:Int) (w:World):
  Calls prog 132 #[.slice a 0 c, .int .i64 x] w fun e w'=>e= .returned (.tuple #[.int .i64 0, .bool false])/\w'=w:=Any.slices_BinarySearch_int_empty Tryz.laysNm225 a c x w
open Go.RowKit Go.Proofs.Tryz Go.Lib in
theorem Tryz.slices_Delete_int_empty (a:Option Addr) (c:Nat) (w:World):
  Calls prog 221 #[.slice a 0 c, .int .i64 0, .int .i64 0] w fun e w'=>e= .returned (.slice a 0 c)/\w'=w:=Any.slices_Delete_int_empty Tryz.laysNm223 a c w
def Tryz.laysNm221_ren:Go.Shelf.Ren:=⟨fun|21=>133|27=>187|28=>188|35=>218|39=>225|n=>n,fun|22=>26|3=>3|4=>4|0=>0|n=>n,fun|n=>n⟩
theorem Tryz.laysNm221:Go.Proofs.Lays2.n21 prog Tryz.laysNm221_ren:={
 mixed:=by kernel_rfl
 f21:=func133.trans (congrArg some (by kernel_rfl))
 f27:=func187.trans (congrArg some (by kernel_rfl))
 f28:=func188.trans (congrArg some (by kernel_rfl))
 f35:=func218.trans (congrArg some (by kernel_rfl))
 f39:=func225.trans (congrArg some (by kernel_rfl))
 t0:=underlying0
 a0:=isAgg0
 z0:=sizeOf0
 v0:=zeroValue0
 t3:=underlying3
 a3:=isAgg3
 z3:=sizeOf3
 v3:=zeroValue3
 t4:=underlying4
 a4:=isAgg4
 z4:=sizeOf4
 v4:=zeroValue4
 t22:=underlying26
 a22:=isAgg26
 z22:=sizeOf26
 v22:=zeroValue26
 i3:=by kernel_rfl}
end Go.Proofs
namespace Go.Proofs.YtamafdcnbcoegaaGreat
attribute [local simp, local go_sem] Ev Ep Ei Eb Et
open Go.RowKit Go.Proofs.Tryz
def Jc (w:World) (v:Value) (ns:List Nat):Prop:=w.ownsRow 0 3 1 v ns.length (J' ns)
variable{k:List Nat}{w:Nat}
theorem kX' (h:w < k.length):(J' k)[w]? =some (.int .i64 (k.getD w 0:Nat)):=by
 simp[J',h,List.getD_eq_getElem?_getD]
theorem hV' (ns:List Nat):∀u∈J' ns,u.oneCell'=true:=by
 intro u hu;obtain⟨n,_,rfl⟩:=z63.1 hu;rfl
theorem cb' (w:World):Jc w (.slice none 0 0) []:=z27 _ _ _ _
variable{c:Value}
theorem Jc.keep {w w':World} (h:Jc w c k) (hk:∀g,c.ownBlock=some g->w'.heap[g]? =w.heap[g]?):Jc w' c k:=L' h hk
theorem Jc.cases {w:World} {v:Value} (h:Jc w v k):(v= .slice none 0 0/\k=[])\/
  ∃g cap z,v= .slice (some ⟨g,0,none⟩) k.length cap/\w.heap[g]? =some (.cells z 3 (0,0))/\k.length<=cap/\cap<=maxLen/\z.size=cap/\z.toList.take k.length=J' k:=by
 obtain⟨h1,h2⟩:=h;rcases h2 with ⟨h2,h3⟩|⟨g,cap,z,rfl,_,F,hn,G,hs,H⟩
 ·exact .inl ⟨h2,z68 h3⟩
 ·exact .inr ⟨g,cap,z,rfl,F,hn,G,by simpa using hs,by simpa using H⟩
variable{p:World}{a q r:Nat}
theorem Jc.cell' (h:Jc p (.slice (some ⟨w,0,none⟩) a q) k) (hk:r < k.length):p.cell? ⟨w,r,none⟩=some (.int .i64 (k.getD r 0:Nat)):=by
 have h0:=h;rcases h.cases with ⟨e,_⟩|⟨g',H,I,e,J,hn,M,hs,O⟩
 ·cases e
 ·injection e with z F G;injection z with z;injection z with z;subst z F G;rw[z59 h0 r (by omega),kX' hk]
variable{l:Array Value}
theorem gj' {ns:List Nat} (z:p.heap[w]? =some (.cells l 3 (0,0))) (hn:ns.length<=a) (F:a<=maxLen) (hs:l.size=a) (G:l.toList.take ns.length=J' ns):
  Jc p (.slice (some ⟨w,0,none⟩) ns.length a) ns:=
 ⟨by simp[J'], .inr ⟨w,a,l,rfl,z54 _,z,hn,F,by simpa using hs,by simpa using G⟩⟩
theorem dq' (z:p.heap[w]? =some (.cells l 3 (0,0))) (hn:k.length=a) (hl:a<=q) (F:q<=maxLen) (hs:l.size=q) {rest:List Value} (G:l.toList=J' k++rest):
  Jc p (.slice (some ⟨w,0,none⟩) a q) k:=by
 subst hn;exact gj' z hl F hs (by rw[G,z82 (by simp[J']),z46 (by simp[J'])])
theorem fd' (n:Nat):(Builtin.zeroCells (Value.int .i64 0).cells n).size=n:=by
 rw[z209];show n * 1=n;omega
variable{j:TypeId}{aN:Nat×Nat}
theorem cc':∀ (G:List Value) (o:Nat) (F:World) (z:Array Value),F.heap[w]? =some (.cells z j aN)->o+G.length<=z.size->
  ∃c,(F.setCells w o G).heap[w]? =some (.cells c j aN)/\c.size=z.size/\c.toList=z.toList.take o++G++z.toList.drop (o+G.length)
 |[],o,F,z,h,_=>⟨z,h,rfl,by simp⟩
 |v::r,o,F,z,h,hl=>by
  have H:o < z.size:=by simp at hl;omega
  obtain⟨c,h1,h2,h3⟩:=cc' r (o+1) (F.setCell ⟨w,o,none⟩ v) _ (aa' h) (by simp at hl ⊢;omega);refine⟨c,h1,by rw[h2];simp,?_⟩;rw[h3,xN'];have I:(z.toList.set o v).take (o+1)=z.toList.take o++[v]:=by rw[sC',List.take_set_of_le (z13 _)];simp[H]
  have J:(z.toList.set o v).drop (o+1+r.length)=z.toList.drop (o+(v::r).length):=by rw[List.drop_set_of_lt (by omega)];congr 1;simp;omega
  rw[I,J];simp
theorem cd' (b:Nat):∀ (z:List Value) (o:Nat) (w:World),Far (fun k=>k=b) w (w.setCells b o z)
 |[],_,w=>Far.refl _ w
 |v::r,o,w=>(Q' w b o v).trans (cd' b r (o+1) _) (fun _ _ h=>h)
theorem aw' (E:Nat->Prop) (w:World) (n:Nat):Far E w (w.drewN n):=⟨rfl,rfl,rfl,z13 _,fun _ _ _=>rfl⟩
theorem qi' (ns:List Nat) (x:Nat):((ns.map Int.ofNat).countP (· < (x:Int)))=ns.countP (· < x):=by
 rw[List.countP_map];apply List.countP_congr;intro a _;simp
theorem mC' (ns:List Nat) (x:Nat):((ns.map Int.ofNat).contains (x:Int))=ns.contains x:=by
 induction ns with
 |nil=>rfl
 |cons a r ih=>simp only[List.map_cons,List.contains_cons,ih];congr 1;rw[Bool.eq_iff_iff];simp only[beq_iff_eq];exact Int.ofNat_inj
theorem cM' (h:Jc p c k) (hs:k.Pairwise (· < ·)) (hl:k.length<=1000000) (x:Nat):
  Calls prog 132 #[c, .int .i64 x] p fun e w'=>e= .returned (.tuple #[.int .i64 (k.countP (· < x):Nat), .bool (k.contains x)])/\∃q,w'=p.drewN q:=by
 rcases h.cases with ⟨rfl,rfl⟩|⟨g,cap,F,rfl,G,hn,H,I,J⟩
 ·refine(Tryz.slices_BinarySearch_int_empty none 0 x p).mono ?_;rintro e w' ⟨rfl,rfl⟩;exact⟨rfl,0,rfl⟩
 ·have hb:=Tryz.slices_BinarySearch_int g 0 k.length cap (k.map Int.ofNat) x p (by simp) (by omega) (fun j hj=>by
   have z:j < k.length:=(by simpa using hj);rw[z44,z59 h j (by omega),kX' z];simp[List.getD_eq_getElem?_getD,z]) (by
   rw[z46 (by simp),xU'];exact hs.imp (fun h=>by simp;omega))
  refine hb.mono ?_;rintro e w' ⟨rfl,q,rfl⟩;rw[z46 (by simp),qi',mC'];exact⟨rfl,q,rfl⟩
theorem kY' (i:Nat):(J' k).drop i=J' (k.drop i):=by simp[J']
theorem kZ' (i:Nat):(J' k).take i=J' (k.take i):=by simp[J']
theorem ei' (ns:List Nat):(J' ns).length=ns.length:=by simp[J']
theorem hX' (base:Option Addr) (n c q:Nat) (z:List Value) (x:Value) (w:World) (F:n<=c) (G:c < n+1) (H:(n+1) * 8<=140737488355328) (I:z.length=n) (J:base=none->n=0)
  (M:∀a,base=some a->∀j v,z[j]? =some v->w.cell? (a.add j)=some v) (O:∀j v,[x][j]? =some v->w.cell? ⟨q,0+j,none⟩=some v) (Q:∀v∈ [x],v.oneCell'=true):
  Calls prog 133 #[.slice base n c, .int .i64 n, .slice (some ⟨q,0,none⟩) 1 1] w fun e w'=>e= .returned (.slice (some ⟨w.heap.size,0,none⟩) (n+1) (grownCap w (n+1) c 3))/\
   w'=w.drew.alloc (.cells ((z++[x]).toArray++Builtin.zeroCells (Value.int .i64 0).cells (grownCap w (n+1) c 3 - (n+1))) 3):=
 Any2.slices_Insert_int_end_grow Tryz.laysNm221 base n c q 0 1 1 z [x] w (by omega) F G H I rfl J M O Q
theorem wu' (b n c i q:Nat) (z:List Value) (x:Value) (w:World) (hi:i < n) (F:n<=c) (G:c < n+1) (H:(n+1) * 8<=140737488355328) (I:z.length=n)
  (J:∀j v,z[j]? =some v->w.cell? ⟨b,0+j,none⟩=some v) (M:∀j v,[x][j]? =some v->w.cell? ⟨q,0+j,none⟩=some v) (O:∀v∈z,v.oneCell'=true) (Q:∀v∈ [x],v.oneCell'=true):
  Calls prog 133 #[.slice (some ⟨b,0,none⟩) n c, .int .i64 i, .slice (some ⟨q,0,none⟩) 1 1] w fun e w'=>e= .returned (.slice (some ⟨w.heap.size,0,none⟩) (n+1) (grownCap w (n+1) c 3))/\
   w'=(((w.alloc (.cells ((z.take i).toArray++Builtin.zeroCells (Value.int .i64 0).cells (n+1 - i)++Builtin.zeroCells (Value.int .i64 0).cells (grownCap w (n+1) c 3 - (n+1))) 3)).drew.setCells w.heap.size i [x]).drew).setCells w.heap.size (i+1) (z.drop i):=
 Any2.slices_Insert_int_grow Tryz.laysNm221 b 0 n c i q 0 1 1 z [x] w hi (by omega) F G H I rfl J M O Q
theorem fe' {w:World} {ns:List Nat} (h:Jc w c ns) (hl:ns.length<=1000000) (k x q:Nat) (hk:k<=ns.length) (ab:w.heap[q]? =some (.cells #[.int .i64 x] j (0,0))) (aE:c.ownBlock≠some q):
  Calls prog 133 #[c, .int .i64 k, .slice (some ⟨q,0,none⟩) 1 1] w fun e w'=>∃v',e= .returned v'/\Jc w' v' (ns.take k++x::ns.drop k)/\
   Far (fun b=>c.ownBlock=some b) w w'/\Loc w c v':=by
 have J:∀z u,[Value.int .i64 x][z]? =some u->w.cell? ⟨q,0+z,none⟩=some u:=by intro z u hj;rw[y' ab,z44];simpa using hj
 have M:∀u∈ [Value.int .i64 x],u.oneCell'=true:=by simp[Value.oneCell']
 have O:(ns.take k++x::ns.drop k).length=ns.length+1:=by simp;omega
 have ac:J' (ns.take k++x::ns.drop k)=J' (ns.take k)++[.int .i64 x]++J' (ns.drop k):=by simp[J']
 have ad:∀ (a:Nat),grownCap w (ns.length+1) a 3<=maxLen:=fun a=>xR' w _ _ _ (by unfold maxLen;omega);have ah:∀ (a:Nat),ns.length+1<=grownCap w (ns.length+1) a 3:=fun a=>ua' w _ _ _;rcases h.cases with ⟨rfl,rfl⟩|⟨g,cap,F,rfl,Q,hn,ai,H,av⟩
 ·obtain rfl:k=0:=by simpa using hk
  refine(hX' none 0 0 q [] (.int .i64 x) w (by omega) (by omega) (by omega) rfl (fun _=>rfl) (fun a aj=>by cases aj) J M).mono ?_;rintro e w' ⟨rfl,rfl⟩;refine⟨_,rfl,?_,?_, .inr (.inr ⟨_,rfl,z13 _⟩)⟩
  ·have I:=ah 0;refine dq' (z19 w.drew _) O I (ad 0) ?_ (rest:=(Builtin.zeroCells (Value.int .i64 0).cells (grownCap w (0+1) 0 3 - (0+1))).toList) ?_
   ·rw[xP',fd'];simp only[List.nil_append,List.size_toArray,List.length_cons,List.length_nil]at I ⊢;omega
   ·rw[zi'];rfl
  ·exact(aw' _ w 1).trans (C' ((z11 _ _).alloc (z13 _) _)) (fun _ _ h=>h)
 ·have aF:q≠g:=fun e=>aE (by rw[e];rfl);have ak:∀z u,(J' ns)[z]? =some u->w.cell? ⟨g,0+z,none⟩=some u:=by
   intro z u hj;have aQ:z < ns.length:=by have:=(z28.1 hj).1;rwa [ei']at this
   rw[z44,z59 h z (by omega)];exact hj
  have ax:∀z,w.frozen? ⟨g,z,none⟩=false:=fun z=>by simp[World.frozen?,Q]
  have ay:∀z,w.frozen? ⟨q,z,none⟩=false:=fun z=>by simp[World.frozen?,ab]
  have az:∀z,z < cap->(w.cell? ⟨g,z,none⟩).isSome=true:=fun z hj=>by rw[y' Q];simp[H,hj]
  have aA:cap<=9223372036854775807:=by unfold maxLen at ai;omega
  have aG:(J' (ns.take k)).length=k:=by rw[ei',z71];omega
  have ao:((J' ns).drop k).length=ns.length - k:=by simp[J']
  by_cases aB:k=ns.length
  ·have aC:J' (ns.take k++x::ns.drop k)=J' ns++[.int .i64 x]:=(by rw[ac,aB];simp[J']);have aH:(k:Int)=(ns.length:Int):=(by rw[aB]);rw[aH];by_cases V:ns.length+1<=cap
   ·refine(Any2.slices_Insert_int_end_room Tryz.laysNm221 g 0 ns.length cap q 0 1 1 [.int .i64 x] w (by omega) V aA rfl (fun z hj=>by rw[z44];exact az _ (by omega)) (fun z _=>ax _) J M).mono ?_;rintro e w' ⟨rfl,rfl⟩;obtain⟨Y,Z,G,aa⟩:=cc' [Value.int .i64 x] (0+ns.length) w F Q (by simp;omega);refine⟨_,rfl,?_,(cd' g _ _ w).mono (fun b _ hb=>by rw[hb];rfl), .inr (.inl rfl)⟩;exact dq' Z O V ai (by rw[G,H]) (by rw[aa,aC,z44,av])
   ·refine(hX' (some ⟨g,0,none⟩) ns.length cap q (J' ns) (.int .i64 x) w hn (by omega) (by omega) (ei' _) (fun h=>by cases h) (fun a aj z u hj=>by cases aj;rw[Addr.add_lit];exact ak z u hj) J M).mono ?_;rintro e w' ⟨rfl,rfl⟩;refine⟨_,rfl,?_,?_, .inr (.inr ⟨_,rfl,z13 _⟩)⟩
    ·have I:=ah cap;refine dq' (z19 w.drew _) O I (ad cap) ?_ (rest:=(Builtin.zeroCells (Value.int .i64 0).cells (grownCap w (ns.length+1) cap 3 - (ns.length+1))).toList) ?_
     ·rw[xP',fd',z98,z35,ei',z90];omega
     ·rw[aC,zi']
    ·exact(aw' _ w 1).trans (C' ((z11 _ _).alloc (z13 _) _)) (fun _ _ h=>h)
  ·have aD:k < ns.length:=(by omega);by_cases V:ns.length+1<=cap
   ·refine(Any2.slices_Insert_int_shift Tryz.laysNm221 g 0 ns.length cap k q 0 1 1 (J' ns) [.int .i64 x] w aD (by omega) V aA aF (ei' _) rfl ak (fun z hj=>by rw[z44];exact az _ (by omega)) (fun z _=>ax _) J (hV' ns) M
     j 3 1 cap (by simp[World.shape?,ab]) (by simp[World.shape?,Q,H]) (by omega) (ay _) (ay _)).mono ?_
    rintro e w' ⟨rfl,rfl⟩;obtain⟨Y,Z,G,aa⟩:=cc' ((J' ns).drop k) (0+(k+1)) w.drew F Q (by rw[ao,H];omega);obtain⟨aI,ap,aq,au⟩:=cc' [Value.int .i64 x] (0+k) _ Y Z (by rw[G,H];simp;omega);refine⟨_,rfl,?_,?_, .inr (.inl rfl)⟩
    ·refine dq' ap O V ai (by rw[aq,G,H]) (rest:=F.toList.drop (ns.length+1)) ?_;rw[au,ac,aa];have a1:(F.toList.take (0+(k+1))++(J' ns).drop k++F.toList.drop (0+(k+1)+((J' ns).drop k).length)).take (0+k)=J' (ns.take k):=(by rw[z38,z82 (by simp;omega),vL',xS' (by omega),z44,<-kZ',<-av,vL',xS' (by omega)]);have a3:0+k+ [Value.int .i64 (x:Int)].length=0+(k+1):=(by simp);have a4:(F.toList.take (0+(k+1))).length=0+(k+1):=(by simp;omega);have a5:0+(k+1)+((J' ns).drop k).length=ns.length+1:=(by rw[ao];omega);rw[a1,a3,a5,z38 (F.toList.take _),zk' (by rw[a4];omega),List.drop_of_length_le (by rw[a4];omega),z80,kY'];simp only[List.append_assoc]
    ·have f1:=(aw' (fun k=>k=g) w 1).trans (cd' g ((J' ns).drop k) (0+(k+1)) w.drew) (fun _ _ h=>h);exact(f1.trans (cd' g _ _ _) (fun _ _ h=>h)).mono (fun b _ hb=>by rw[hb];rfl)
   ·refine(wu' g ns.length cap k q (J' ns) (.int .i64 x) w aD hn (by omega) (by omega) (ei' _) ak J (hV' ns) M).mono ?_;rintro e w' ⟨rfl,rfl⟩;have I:=ah cap;have aJ:=ad cap;have aK:Far (fun _=>False) w (w.alloc (.cells (((J' ns).take k).toArray++Builtin.zeroCells (Value.int .i64 0).cells (ns.length+1 - k)++Builtin.zeroCells (Value.int .i64 0).cells (grownCap w (ns.length+1) cap 3 - (ns.length+1))) 3)):=C' ((z11 _ _).alloc (z13 _) _);have aL:=z19 w (.cells (((J' ns).take k).toArray++Builtin.zeroCells (Value.int .i64 0).cells (ns.length+1 - k)++Builtin.zeroCells (Value.int .i64 0).cells (grownCap w (ns.length+1) cap 3 - (ns.length+1))) 3);have aM:(((J' ns).take k).toArray++Builtin.zeroCells (Value.int .i64 0).cells (ns.length+1 - k)++Builtin.zeroCells (Value.int .i64 0).cells (grownCap w (ns.length+1) cap 3 - (ns.length+1))).size=grownCap w (ns.length+1) cap 3:=(by rw[xP',xP',fd',fd'];simp[ei'];omega);have aN:∃r,(((J' ns).take k).toArray++Builtin.zeroCells (Value.int .i64 0).cells (ns.length+1 - k)++Builtin.zeroCells (Value.int .i64 0).cells (grownCap w (ns.length+1) cap 3 - (ns.length+1))).toList=J' (ns.take k)++r:=⟨_,by rw[Array.append_assoc,zi',kZ']⟩;obtain⟨r,aO⟩:=aN;generalize grownCap w (ns.length+1) cap 3=aP at *;generalize (((J' ns).take k).toArray++Builtin.zeroCells (Value.int .i64 0).cells (ns.length+1 - k)++Builtin.zeroCells (Value.int .i64 0).cells (aP - (ns.length+1)))=arr at *;generalize aR:w.alloc (.cells arr 3)=W at *;obtain⟨Y,Z,G,aa⟩:=cc' [Value.int .i64 x] k W.drew arr aL (by simp;omega);obtain⟨aI,ap,aq,au⟩:=cc' ((J' ns).drop k) (k+1) (W.drew.setCells w.heap.size k [Value.int .i64 x]).drew Y Z (by rw[G,ao];omega);have a2:(J' (ns.take k)++[Value.int .i64 (x:Int)]).length=k+1:=(by simp[aG]);refine⟨_,rfl,?_,?_, .inr (.inr ⟨_,rfl,z13 _⟩)⟩
    ·refine dq' ap O I aJ (by rw[aq,G,aM]) (rest:=Y.toList.drop (k+1+((J' ns).drop k).length)) ?_;rw[au,ac,aa];have a1:arr.toList.take k=J' (ns.take k):=(by rw[aO,z82 (by omega),z46 (by omega)]);rw[a1,z82 (by rw[a2];omega),z46 (by rw[a2];omega),kY']
    ·have f1:Far (fun b=>b=w.heap.size) W (W.drew.setCells w.heap.size k [Value.int .i64 x]).drew:=(aw' _ W 1).trans ((cd' w.heap.size _ k W.drew).trans (aw' _ _ 1) (fun _ _ h=>h)) (fun _ _ h=>h);have f2:=f1.trans (cd' w.heap.size ((J' ns).drop k) (k+1) _) (fun _ _ h=>h);exact(aK.trans f2 (fun b hb h=>by omega)).mono (fun _ _ h=>h.elim)
theorem ej' {w:World} (h:Jc w c k) (i j:Nat) (M:i<=j) (hj:j<=k.length):
  Calls prog 221 #[c, .int .i64 i, .int .i64 j] w fun e w'=>∃v',e= .returned v'/\Jc w' v' (k.take i++k.drop j)/\
   Far (fun b=>c.ownBlock=some b) w w'/\v'.ownBlock=c.ownBlock:=by
 rcases h.cases with ⟨rfl,rfl⟩|⟨g,cap,F,rfl,G,hn,H,I,ab⟩
 ·obtain rfl:j=0:=by simpa using hj
  obtain rfl:i=0:=by omega
  refine(Tryz.slices_Delete_int_empty none 0 w).mono ?_;rintro e w' ⟨rfl,rfl⟩;exact⟨_,rfl,cb' _,Far.refl _ _,rfl⟩
 ·refine(Tryz.slices_Delete_int_cells g 0 k.length cap i j (k.map Int.ofNat) w (by simp) hn (by unfold maxLen at H;omega) M hj (fun z hk=>?_) (fun z _=>by simp[World.frozen?,G])).mono ?_
  ·have J:z < k.length:=(by simpa using hk);rw[z44,z59 h z (by omega),kX' J];simp[List.getD_eq_getElem?_getD,J]
  ·rintro e w' ⟨rfl,q,rfl⟩;have O:(((k.map Int.ofNat).take k.length).take i++((k.map Int.ofNat).take k.length).drop j++List.replicate (j - i) 0).map (Value.int .i64)=J' (k.take i++k.drop j)++List.replicate (j - i) (.int .i64 0):=by have Q:(k.map Int.ofNat).take k.length=k.map Int.ofNat:=z46 (by simp);rw[Q];simp only[List.map_append,List.map_replicate,J',<-List.map_take,<-List.map_drop,List.map_map];rfl
   rw[O];have V:(J' (k.take i++k.drop j)++List.replicate (j - i) (Value.int .i64 0)).length=k.length:=(by simp[J'];omega);obtain⟨ac,Y,Z,aa⟩:=cc' (J' (k.take i++k.drop j)++List.replicate (j - i) (.int .i64 0)) 0 (w.drewN q) F G (by rw[V,I];omega);refine⟨_,rfl,?_,?_,rfl⟩
   ·refine dq' Y (by simp;omega) (by omega) H (by rw[Z,I]) (rest:=List.replicate (j - i) (.int .i64 0)++F.toList.drop (0+(J' (k.take i++k.drop j)++List.replicate (j - i) (Value.int .i64 0)).length)) ?_;rw[aa];simp
   ·exact((aw' (fun z=>z=g) w q).trans (cd' g _ _ _) (fun _ _ h=>h)).mono (fun b _ hb=>by rw[hb];rfl)
def al':List (Nat×Value)->Int->Option Value
 |[],_=>none
 |x::r,k=>if k=(x.1:Int)then some x.2 else al' r k
theorem cj' (x:Nat×Value) (r:List (Nat×Value)) (k:Int):al' (x::r) k=if k=(x.1:Int)then some x.2 else al' r k:=rfl
theorem ek':al' []=fun _=>none:=by funext k;rfl
variable{d:List (Nat×Value)}{M:Int}
theorem dE' (h:al' d M=some c):∃x∈d,(x.1:Int)=M/\x.2=c:=by
 induction d with
 |nil=>cases h
 |cons x r ih=>
  unfold al' at h;split at h
  ·rename_i hk;exact⟨x, .head _,hk.symm,mq' h⟩
  ·obtain⟨y,z,e⟩:=ih h;exact⟨y, .tail _ z,e⟩
theorem fN' (l:List (Nat×Value)) (n:Nat):(al' l n).isSome=(l.map (·.1)).contains n:=by
 induction l with
 |nil=>rfl
 |cons x r ih=>
  unfold al';rw[z48,yf'];by_cases h:n=x.1
  ·subst h;simp
  ·rw[if_neg (by omega),ih];simp[h]
def br':List (Nat×Value)->Nat->Value->List (Nat×Value)
 |[],n,v=>[(n,v)]
 |x::r,n,v=>if n < x.1 then(n,v)::x::r else if n=x.1 then(n,v)::r else x::br' r n v
theorem gk' (l:List (Nat×Value)) (n:Nat) (v:Value):al' (br' l n v)=jV' (al' l) n v:=by
 funext k;induction l with
 |nil=>simp[br',al',jV']
 |cons x r ih=>
  unfold br';by_cases h1:n < x.1
  ·rw[if_pos h1];show(if k=(n:Int)then some v else al' (x::r) k)= _;rfl
  ·rw[if_neg h1];by_cases h2:n=x.1
   ·rw[if_pos h2];show(if k=(n:Int)then some v else al' r k)= _;unfold jV';rw[cj'];by_cases h3:k=(n:Int)
    ·rw[if_pos h3,if_pos h3]
    ·rw[if_neg h3,if_neg h3,if_neg (by omega)]
   ·rw[if_neg h2];show(if k=(x.1:Int)then some x.2 else al' (br' r n v) k)= _;rw[ih];unfold jV';show _=if k=(n:Int)then some v else(if k=(x.1:Int)then some x.2 else al' r k)
    by_cases h3:k=(x.1:Int)
    ·rw[if_pos h3,if_neg (by omega),if_pos h3]
    ·rw[if_neg h3,if_neg h3]
variable{cI:Nat×Value}
theorem hY' (h:cI∈br' d w c):cI=(w,c)\/cI∈d:=by
 induction d with
 |nil=>simp[br']at h;exact .inl h
 |cons y r ih=>
  unfold br' at h;split at h
  ·cases h with
   |head=>exact .inl rfl
   |tail _ h=>exact .inr h
  ·split at h
   ·cases h with
    |head=>exact .inl rfl
    |tail _ h=>exact .inr (.tail _ h)
   ·cases h with
    |head=>exact .inr (.head _)
    |tail _ h=>exact(ih h).imp id (fun h=> .tail _ h)
theorem fO' (h:∀y∈k,¬y < w):k.countP (· < w)=0:=by
 rw[xJ'];intro y z;simpa using h y z
theorem gl' {n:Nat} {v:Value} (hs:(d.map (·.1)).Pairwise (· < ·)):
  (br' d n v).map (·.1)=if(d.map (·.1)).contains n then d.map (·.1)else(d.map (·.1)).take ((d.map (·.1)).countP (· < n))++n::(d.map (·.1)).drop ((d.map (·.1)).countP (· < n)):=by
 induction d with
 |nil=>simp[br']
 |cons x r ih=>
  rw[z48,z60]at hs;obtain⟨h0,hs⟩:=hs;unfold br';rw[z48,yf',rW'];by_cases h1:n < x.1
  ·have G:(r.map (·.1)).countP (· < n)=0:=fO' (fun y H=>by have:=h0 y H;omega);have hn:(r.map (·.1)).contains n=false:=by
    cases h:(r.map (·.1)).contains n with
    |false=>rfl
    |true=>have:=h0 n (by simpa using h);omega
   have z:(n==x.1)=false:=(by simp;omega);rw[if_pos h1,G,hn,z,if_neg (by simp)];have:decide (x.1 < n)=false:=(by simp;omega);simp[this]
  ·rw[if_neg h1];by_cases h2:n=x.1
   ·have z:(n==x.1)=true:=(by simp[h2]);rw[if_pos h2,z,if_pos (by simp)];simp[h2]
   ·have I:x.1 < n:=(by omega);have z:(n==x.1)=false:=(by simp[h2]);rw[if_neg h2,z,z48,ih hs];simp only[Bool.false_or];by_cases F:(r.map (·.1)).contains n=true
    ·rw[if_pos F,if_pos F]
    ·rw[if_neg F,if_neg F];simp[I]
theorem qj' (hs:(d.map (·.1)).Pairwise (· < ·)):((br' d w c).map (·.1)).Pairwise (· < ·):=by
 induction d with
 |nil=>simp[br']
 |cons x r ih=>
  have G:=hs;rw[z48,z60]at hs;obtain⟨h0,hs⟩:=hs;unfold br';by_cases h1:w < x.1
  ·rw[if_pos h1,z48,z60];refine⟨fun y z=>?_,G⟩;rw[z48]at z;cases z with
   |head=>exact h1
   |tail _ z=>exact Nat.lt_trans h1 (h0 y z)
  ·rw[if_neg h1];by_cases h2:w=x.1
   ·rw[if_pos h2,z48,z60];exact⟨fun y z=>by rw[h2];exact h0 y z,hs⟩
   ·rw[if_neg h2,z48,z60];refine⟨fun y z=>?_,ih hs⟩;obtain⟨H,F,rfl⟩:=z63.1 z;rcases hY' F with rfl|F
    ·show x.1 < w;omega
    ·exact h0 _ (z63.2 ⟨H,F,rfl⟩)
theorem fP' (l:List (Nat×Value)) (n:Nat) (v:Value):(br' l n v).length<=l.length+1:=by
 induction l with
 |nil=>simp[br']
 |cons x r ih=>
  unfold br';split
  ·simp
  ·split
   ·simp
   ·simp only[List.length_cons];omega
structure Jb (w:World) (nv mv:Value) (l:List (Nat×Value)):Prop where
 nums:Jc w nv (l.map (·.1))
 map:jU' w mv (al' l)
 sorted:(l.map (·.1)).Pairwise (· < ·)
 len:l.length<=1000
variable{f:Value}
theorem Jb.keep {w w':World} (h:Jb w c f d) (hn:∀g,c.ownBlock=some g->w'.heap[g]? =w.heap[g]?) (z:∀g,be' f=some g->w'.heap[g]? =w.heap[g]?):Jb w' c f d:=
 ⟨h.nums.keep hn,h.map.keep z,h.sorted,h.len⟩
def ShU (nv mv:Value) (k:Nat):Prop:=nv.ownBlock=some k\/be' mv=some k
theorem Jb.far {E:Nat->Prop} {w w':World} {nv mv:Value} {l:List (Nat×Value)} (h:Jb w nv mv l) (F:Far E w w') (G:∀k,ShU nv mv k->¬E k):Jb w' nv mv l:=
 h.keep (fun g z=>F.rest g (z15 h.nums g z).2 (G g (.inl z))) (fun g z=>F.rest g (h.map.lt g z) (G g (.inr z)))
theorem Jb.lt {w:World} (h:Jb w c f d):∀k,ShU c f k->k < w.heap.size:=by
 rintro k (hk|hk)
 ·exact(z15 h.nums k hk).2
 ·exact h.map.lt k hk
theorem fQ' (w:World):Jb w (.slice none 0 0) (.map none) []:=⟨cb' w, .inl ⟨rfl,ek'⟩,by simp,by simp⟩
theorem Jb.ne {w:World} {nv mv:Value} {l:List (Nat×Value)} (h:Jb w nv mv l) {p:Nat} {c:Array Value} {t:TypeId} {fr:Nat×Nat} (z:w.heap[p]? =some (.cells c t fr)) (F:t≠3):¬ShU nv mv p:=by
 rintro(hk|hk)
 ·exact(Qi.Qv h.nums).ne z (fun e=>F e.symm) hk
 ·rcases h.map with ⟨rfl,_⟩|⟨b,rfl,G⟩
  ·cases hk
  ·cases hk;exact G.Qy z
structure eR' (w:World) (p o:Nat) (t:TypeId) (arr:Array Value) (nv mv:Value) (l:List (Nat×Value)):Prop where
 blk:w.heap[p]? =some (.cells arr t (0,0))
 c0:arr[o]? =some nv
 c1:arr[o+1]? =some mv
 sh:Jb w nv mv l
 ty:t≠3
structure cq' (w x:World) (p o:Nat) (t:TypeId) (arr:Array Value) (nv mv:Value) (l':List (Nat×Value)):Prop where
 out:∃nv' mv',eR' x p o t ((arr.setIfInBounds o nv').setIfInBounds (o+1) mv') nv' mv' l'/\Loc w nv nv'/\(be' mv'=be' mv\/∃g,be' mv'=some g/\w.heap.size<=g)
 far:Far (fun k=>k=p\/ShU nv mv k) w x
theorem bs' {i:Nat} (h:l[i]? =some c):l.setIfInBounds i c=l:=by
 apply vx';rw[xN'];apply z94;intro j;rw[z99];by_cases z:i=j
 ·subst z;have F:i < l.size:=(z21.1 h).1;rw[if_pos rfl,zj',if_pos F];simpa using h.symm
 ·simp[z]
theorem set_comm (u v:Value) (h:w≠a):(l.setIfInBounds w u).setIfInBounds a v=(l.setIfInBounds a v).setIfInBounds w u:=by
 apply vx';simp only[Array.toList_setIfInBounds];exact List.set_comm _ _ h
variable{aV:Int -> Option Value}
theorem Jc.Vd (N:Jc p c k) (z:Xd p w aV):c.ownBlock≠some w:=by
 intro h;rcases N.cases with ⟨rfl,_⟩|⟨g,cap,G,rfl,F,_⟩
 ·cases h
 ·cases h;exact z.Qy F
variable{u:World}
theorem bT' (h:Loc u c f) (hs:p.heap.size<=u.heap.size):Loc p c f:=by
 rcases h with h|h|⟨g,h,z⟩
 ·exact .inl h
 ·exact .inr (.inl h)
 ·exact .inr (.inr ⟨g,h,z26 hs z⟩)
variable{G:Value}
theorem kg' {W:World} {v:Value} (h0:a < l.size) (h1:a+1 < l.size) (hb:u.heap[w]? =some (.cells ((l.setIfInBounds a f).setIfInBounds (a+1) (.map (some r))) j (0,0))) (J:j≠3)
  (N:Jc u f ((br' d q v).map (·.1))) (F:Xd u r (al' d)) (M:Far (fun k=>k=w\/c.ownBlock=some k) p u) (hl:Loc p c f) (H:be' G=some r\/p.heap.size<=r)
  (O:Xd W r (jV' (al' d) q v)) (z:Far (fun k=>k=r) u W) (hs:(d.map (·.1)).Pairwise (· < ·)) (V:d.length < 1000):cq' p W w a j l c G (br' d q v):=by
 have Q:¬w=r:=fun e=>F.Qy (by rw[<-e];exact hb);refine⟨⟨f, .map (some r),⟨z.blk hb Q,?_,?_,⟨N.keep (fun g I=>z.rest g (z15 N g I).2 (fun e=>N.Vd F (by rw[I,e]))), .inr ⟨r,rfl,by rw[gk'];exact O⟩,qj' hs,by have:=fP' d q v;omega⟩,J⟩,hl,?_⟩,?_⟩
 ·rw[z16 (by omega)];simp[h0]
 ·simp[h1]
 ·rcases H with h|h
  ·exact .inl h.symm
  ·exact .inr ⟨r,rfl,h⟩
 ·refine(M.mono (fun k _ h=>h.elim .inl (fun h=> .inr (.inl h)))).trans z (fun k hk e=>?_);rcases H with h|h
  ·exact .inr (.inr (by rw[h,e]))
  ·omega
def zF' (B:Nat) (z:List Value) (v:Value) (w:World):Prop:=∃g,v= .slice (some ⟨g,0,none⟩) 1 1/\B<=g/\w.heap[g]? =some (.cells z.toArray 261 (0,0))
theorem qk' (B:Nat) (z:List Value):bm' (zF' B z):=fun _ _ _ h hb=>by
 obtain⟨g,e,h1,h2⟩:=h;exact⟨g,e,h1,(hb.block g (z14 h2)).trans h2⟩
variable{t:List Value}{D:Nat -> Prop}
theorem hZ' (z:∀k,D k->k < w):bP' D (zF' w t):=fun _ _ _ h hF=>by
 obtain⟨g,e,h1,h2⟩:=h;exact⟨g,e,h1,hF.blk h2 (fun e=>by have:=z _ e;omega)⟩
def yh' (w0:World) (z:Value) (F:List Value) (v:Value) (w:World):Prop:=Qi w 261 65 v 1 F/\Loc w0 z v/\w0.heap.size<=w.heap.size
theorem jB' (w0:World) (z:Value) (F:List Value):bm' (yh' w0 z F):=fun _ _ _ h hb=>
 ⟨h.1.keep (fun g G=>hb.block g (h.1.lt g G)),h.2.1,z26 h.2.2 hb.size⟩
theorem ia' {E:Nat->Prop} (F:∀k,E k->k < p.heap.size/\c.ownBlock≠some k):bP' E (yh' p c t):=fun _ _ _ h hF=>
 ⟨h.1.far hF (fun g z e=>by
  obtain⟨h1,h2⟩:=F g e;rcases h.2.1 with h3|h3|⟨k,h3,h4⟩
  ·rw[h3]at z;cases z
  ·rw[h3]at z;exact h2 z
  ·rw[h3]at z;cases z;omega),h.2.1,z26 h.2.2 hF.size⟩
theorem lb':(prog.info? 261).map (fun i=>(i.zero,i.size,i.bytes))=some (some (.agg (.int .i64 0::bv bd').toArray),65,72):=by kernel_rfl
def yi' (w0:World) (p:Nat) (lv z:Value) (n:Int) (F:List Value) (w:World):Prop:=
 ∃v,w.heap[p]? =some (.cells #[lv,v, .int .i64 n, .bool false] 252 (0,0))/\yh' w0 z F v w
theorem jC' (w0:World) (p:Nat) (lv z:Value) (n:Int) (F:List Value):bm' (fun _ w=>yi' w0 p lv z n F w):=fun _ _ _ h hb=>by
 obtain⟨v,h1,h2⟩:=h;exact⟨v,(hb.block p (z14 h1)).trans h1,jB' w0 z F _ _ _ h2 hb⟩
variable{N:Oper}{I:Act}{Z:Exit -> Act -> World -> Prop}
theorem iL' {K:Act->World->Prop} (x y:Operand) (G:N.op= .build 261 #[(0,x),(1,y)]) (k:Int) (S:List UInt8) (H:S.length=64)
  (z:I.eval x= .int .i64 k) (F:I.eval y= .agg (bv S).toArray) (h:K (I.put N.dst (.agg (.int .i64 k::bv S).toArray)) p):N.wp prog I p K Z:=by
 have hb:=qd' k S H;refine wp_build 261 #[(0,x),(1,y)] G ?_ ?_
 ·simp only[List.map_toArray,List.map_cons,List.map_nil,z,F,hb];rfl
 ·simp only[List.map_toArray,List.map_cons,List.map_nil,z,F,hb];exact h
theorem os' (w:World) (z:List Value) (F:z.length=65):(Instr.buildSlice 250 1 #[(0, .agg z.toArray)]).run prog w= .ok (.slice (some ⟨w.heap.size,0,none⟩) 1 1) (w.alloc (.cells z.toArray 261)):=by
 obtain⟨i0,hi,H,I,M⟩:=au' lb';have J:∀C:Array Value,C.size=65->Instr.fill (fun i=>some (i * 65,65)) C [(0, .agg z.toArray)]=some z.toArray:=by intro C G;have e:=kU' 0 z 0 C (by omega);simp only[Instr.fill,Value.cells];simp[F,G];simp at e;rw[e];simp[F,G]
 simp[Instr.buildSlice,run_underlying underlying250,sizeOf,typeInfo,hi,I,zeroValue,H];rw[J _ (by simp)];simp[newRow]
theorem mD' {K:Act->World->Prop} (x:Operand) (F:N.op= .buildSlice 250 1 #[(0,x)]) (z:List Value) (G:z.length=65)
  (H:I.eval x= .agg z.toArray) (h:K (I.put N.dst (.slice (some ⟨p.heap.size,0,none⟩) 1 1)) (p.alloc (.cells z.toArray 261))):N.wp prog I p K Z:=by
 unfold Oper.wp execOp;simp only[F,List.map_toArray,List.map_cons,List.map_nil,H,Sem.run_bind,os' p z G,Result.andThen_ok];exact h
theorem ot' (w:World) (p:Nat) (lv z:Value) (n k:Nat) (S:List UInt8) (ab:S.length=64) (hn:n≠1) (aN:n<=9223372036854775807)
  (hb:w.heap[p]? =some (.cells #[lv,z, .int .i64 n, .bool false] 252 (0,0))) (ac:Qi w 261 65 z 0 []):
  Calls prog 182 #[.pointer (some ⟨p,0,none⟩), .int .i64 k, .agg (bv S).toArray] w fun r w'=>
   r= .returned (.int .i64 0)/\yi' w p lv z (n - 1:Nat) (.int .i64 k::bv S) w'/\Far (fun j=>j=p\/z.ownBlock=some j) w w':=by
 have ai:=z14 hb;have V:=ac.ne hb (by decide);have Y:∀F,(w.alloc F).heap[p]? =some (.cells #[lv,z, .int .i64 n, .bool false] 252 (0,0)):=fun F=>(hao _ _ ai).trans hb;have c3:∀F,(w.alloc F).cell? ⟨p,3,none⟩=some (.bool false):=fun F=>y' (i:=3) (Y F);have c2:∀F,(w.alloc F).cell? ⟨p,2,none⟩=some (.int .i64 n):=fun F=>y' (i:=2) (Y F);have f2:∀F,(w.alloc F).frozen? ⟨p,2,none⟩=false:=fun F=>H' (i:=2) (Y F);have aO:((n:Int) ==1)=false:=by simp;omega
 have aP:IntKind.i64.wrap ((n:Int) - 1)=(n:Int) - 1:=by rw[z36];omega
 have aj:=m' hb;have ak:=m' ac;clear hb Y ac;go_enter func182,ntmps182;go_upto_region 7 with fail;obtain⟨M,ao⟩:=exq (n - 1);refine G' (fun x=>x.heap[p]? =some (.cells #[lv,z, .int .i64 M, .bool false] 252 (0,0))/\x.heap[w.heap.size]? =some (.cells (bv S).toArray 207 (0,0))/\Qi x 261 65 z 0 []/\Far (fun j=>j=p) w x/\w.heap.size < x.heap.size) ?_ ?_
 ·have aD:max 0 ((n:Int) - 1)=((M:Nat):Int):=by omega
  rw[aD];refine⟨?_,?_,?_,?_,?_⟩
  ·rw[hao _ _ (by rw[z79];exact ai)];have:=aa' (j:=2) (v:= .int .i64 M) (d' aj);simpa using this
  ·have:=z19 (w.setCell ⟨p,2,none⟩ (.int .i64 M)) (.cells (bv S).toArray 207);rw[z79]at this;exact this
  ·exact(d' ak).far ((Q' w p 2 (.int .i64 M)).trans (C' ((z11 _ _).alloc (z13 _) _)) (fun _ _ h=>h)) (fun g G e=>V (by rw[G,e]))
  ·exact(Q' w p 2 (.int .i64 M)).trans (C' ((z11 _ _).alloc (z13 _) _)) (fun _ _ h=>h)
  ·simp
 rintro x ⟨h0,h1,h2,h3,aQ⟩;have aR:=z14 h0;have aE:=fun g G=>h2.lt g G;have ap:(Value.int .i64 k::bv S).length=65:=by simp[Z',ab]
 obtain⟨O,Z⟩:=exq (Value.int .i64 k::bv S);rw[<-Z]at ap;have aq:=m' Z;have aF:∀u∈O,u.oneCell'=true:=by
  rw[Z];intro u hu;cases hu with
  |head=>rfl
  |tail _ hu=>exact dg' S u hu
 clear Z;have au:=m' h0;have av:=m' h1;have ax:=m' h2;have aG:=m' h3;clear h0 h1 h2 h3 c3 c2 f2 aj ak;refine af'
  [Ep p 0,Ep p 0,Ep p 0,Ep p 1,Ev z,Ei k,Ev (.agg (bv S).toArray),Ev (.agg O.toArray),zF' x.heap.size O,yh' x z O,Ep p 0,Ep p 1,fun _ w=>yi' x p lv z M O w]
  [[0],[0],[2031],[3032],[4033],[1],[5],[6035,7036],[8037],[5034,9038],[1030],[11040],[12041,10039]] [31,32,33,34,35,36,37,38,39,40,41,42,0] [30,12]
  [(9,fun j=>z.ownBlock=some j),(12,fun j=>j=p)] ?_ ?_ (hst:=by repeat' (first|exact V' _|exact qk' _ _|exact jB' _ _ _|exact jC' _ _ _ _ _ _|exact trivial|apply z12)) (hstF:=by repeat' (first|exact trivial|exact .inl rfl|exact .inr (.inr (bj' _ _))|exact .inr (.inr (hZ' (fun g G=>aE g G)))|exact .inr (.inr (hZ' (fun g (G:g=p)=>by omega)))|exact .inr (.inr (ia' (fun g (G:g=p)=>⟨by omega,by rw[G];exact V⟩)))|exact .inr (.inl (by kernel_rfl))|apply z12))
 ·refine⟨?_,?_,?_,?_,?_,?_,?_,?_,?_,?_,?_,?_,?_,trivial⟩;all_goals
   intro a Q hb J;have ad:=hb.size;have aa:=m' hb;clear hb;simp[I']at J
  ·go_simp;exact⟨_,rfl,Far.refl _ _,rfl⟩
  ·go_simp;exact⟨_,rfl,Far.refl _ _,rfl⟩
  ·go_simp;exact⟨_,rfl,Far.refl _ _,rfl⟩
  ·go_simp;exact⟨_,rfl,Far.refl _ _,rfl⟩
  ·have d1:Q.cell? ⟨p,1,none⟩=some z:=y' (i:=1) ((d' aa).blk (d' au) (by
    rintro⟨q,H,g1,g2,I⟩;simp at H;rcases H with rfl|rfl
    ·exact V I
    ·exact absurd (show bJ' _ 12 4=false from g2) (by decide+kernel)))
   go_simp;exact⟨_,rfl,Far.refl _ _,rfl⟩
  ·go_simp;exact⟨_,rfl,Far.refl _ _,rfl⟩
  ·have d1:=(d' aa).blk (d' av) (by
    rintro⟨q,H,g1,g2,I⟩;simp at H;rcases H with rfl|rfl
    ·have:¬z.ownBlock=some w.heap.size:=fun e=>((d' ax).ne (d' av) (by decide)) e;exact this I
    ·have I:w.heap.size=p:=I;omega)
   rw[if_pos (by rfl)];refine cE' (.tmp 5) rfl w.heap.size (by simp[Act.eval,J]) 207 S ab d1 ?_;exact⟨_,rfl,Far.refl _ _,rfl⟩
  ·rw[if_pos (by rfl)];refine iL' (.tmp 35) (.tmp 36) rfl k S ab (by simp[Act.eval,J]) (by simp[Act.eval,J]) ?_;exact⟨_,rfl,Far.refl _ _,by rw[d' aq];rfl⟩
  ·rw[if_pos (by rfl)];refine mD' (.tmp 37) rfl O ap (by simp[Act.eval,J]) ?_;exact⟨_,rfl,C' ((z11 _ _).alloc (z13 _) _),_,rfl,ad,z19 Q _⟩
  ·have aH:=(d' ax).far (d' aa) (by
    rintro g G ⟨q,H,g1,g2,I⟩;simp at H;rcases H with rfl|rfl
    ·exact g1 rfl
    ·have I:g=p:=I;exact V (by rw[G,I]))
   obtain⟨g,G,aS,aI⟩:=J.2;refine cK' rfl (.tmp 34) (.tmp 38) 250 rfl 261 _ 65 72 underlying250 lb' (by simp[Value.cells,Z',aA']) z 0 [] aH (by simp[Act.eval,J]) ⟨g,0,none⟩ 1 1 O (by simp[Act.eval,G]) (by omega) ?_ aF (by omega) (by omega) (by omega) ?_
   ·intro j u hj;rw[dG',y' aI,yb',z44];exact hj
   ·intro v' w' g1 g2;exact⟨v',rfl,an' (.head _) (ba' g2.grown),g1,dy' ad g2,z26 ad g2.grown.size⟩
  ·go_simp;exact⟨_,rfl,Far.refl _ _,rfl⟩
  ·go_simp;exact⟨_,rfl,Far.refl _ _,rfl⟩
  ·have d0:=(d' aa).blk (d' au) (by
    rintro⟨q,H,g1,g2,I⟩;simp at H;rcases H with rfl|rfl
    ·exact V I
    ·exact g1 rfl)
   have f1:Q.frozen? ⟨p,1,none⟩=false:=H' (i:=1) d0;have d1:Q.cell? ⟨p,1,none⟩=some z:=y' (i:=1) d0;obtain⟨aT,ah⟩:=J;obtain⟨ay,cap,aJ,_⟩:=ah.1.shape;have aK:=m' d0;have az:=m' ah;clear ah d0;rw[aJ]at az;go_simp;refine⟨an' (.tail _ (.head _)) (Q' Q p 1 _), .slice ay 1 cap,?_,?_⟩
   ·have:=aa' (j:=1) (v:= .slice ay 1 cap) (d' aK);rw[<-ao];simpa using this
   ·have aA:=d' az;have aU:=aA.2.2;refine ia' (E:=fun j=>j=p) (fun g (G:g=p)=>⟨by omega,by rw[G];exact V⟩) _ _ _ aA (Q' Q p 1 _)
 ·intro f Q hF aB;have aC:=aB.2.2.2.2.2.2.2.2.2.2.2.2.1;have aL:=m' aC;have aM:=m' hF;clear aC aB hF;simp only[O'];go_simp;go_wp2;go_ret;refine⟨rfl,?_,?_⟩
  ·rw[<-ao,<-d' aq];obtain⟨v,g1,g2,I,aV⟩:=d' aL;exact⟨v,g1,g2,bT' I (by omega),by omega⟩
  ·refine((d' aG).mono (fun j _ h=> .inl h)).trans (d' aM) (fun j _ h=>?_);obtain⟨q,H,h⟩:=h;simp at H;rcases H with rfl|rfl
   ·exact .inr h
   ·exact .inl h
def cN' (b:z10) (z:Nat):Value:= .agg #[.string b, .int .i64 z]
def yR':Value:= .agg #[.string ⟨#[]⟩, .int .i64 0]
theorem sD' (w:World):(zeroValue 158).run prog w= .ok yR' w:=zeroValue158 w
def ou' (l:List (Nat×Value)):Prop:=∀x∈l,∃b z,x.2=cN' b z
theorem uG' (h:ou' d) (k:Int):(∃b z,al' d k=some (cN' b z))\/al' d k=none:=by
 cases F:al' d k with
 |none=>exact .inr rfl
 |some v=>obtain⟨x,G,_,rfl⟩:=dE' F;obtain⟨b,z,e⟩:=h x G;exact .inl ⟨b,z,by rw[e]⟩
theorem wv' (hb:p.heap[w]? =some (.cells l j (0,0))) (h1:l[a+1]? =some f) (S:Jb p c f d) (A:ou' d) (n:Int):
  Calls prog 150 #[.pointer (some ⟨w,a,none⟩), .int .i64 n] p fun e w'=>e= .returned (.bool (al' d n).isSome)/\Below p.heap.size p w':=by
 have c1:p.cell? ⟨w,a+1,none⟩=some f:=(y' hb).trans h1;have z:=(bw' (P:=prog) (w:=p) (t:=137) underlying137 underlying3 (sD' p) S.map n).1;clear S hb h1;rcases uG' A n with ⟨b,F,h⟩|h;all_goals
  rw[h]at z ⊢;simp only[Option.getD_some,Option.getD_none,Option.isSome_some,Option.isSome_none,cN',yR']at z ⊢;clear h A;go_enter func150,ntmps150;go_wp2;go_ret;refine⟨rfl,?_⟩;exact(z11 _ _).alloc (z13 _) _
theorem ql' (S:eR' p w a j l c f d) (hl:d.length < 1000) (n:Nat) (b:z10) (F:Nat):
  Calls prog 90 #[.pointer (some ⟨w,a,none⟩), .int .i64 n,cN' b F] p fun e w'=>e= .returned (.tuple #[])/\cq' p w' w a j l c f (br' d n (cN' b F)):=by
 obtain⟨Y,h0,h1,S,ab⟩:=S;obtain⟨ax,ac⟩:=exq (f);rw[<-ac];have ac:=m' ac;have c0:p.cell? ⟨w,a,none⟩=some c:=(y' Y).trans h0;have c1:p.cell? ⟨w,a+1,none⟩=some f:=(y' Y).trans h1;unfold cN';have ay:=z14 Y;go_enter func90,ntmps90;go_upto_region 1 with fail;refine G' (fun x=>x.heap[w]? =some (.cells l j (0,0))/\x.heap[p.heap.size]? =some (.cells #[.string b, .int .i64 F] 158 (0,0))/\Jb x c f d/\Far (fun _=>False) p x/\p.heap.size < x.heap.size) ?_ ?_
 ·have G:Far (fun _=>False) p (p.alloc (.cells #[.string b, .int .i64 F] 158)):=C' ((z11 _ _).alloc (z13 _) _);exact⟨G.blk Y id,z19 p _,S.far G (fun _ _ h=>h),G,by simp⟩
 clear c0 c1 S;rintro x ⟨hb,H,S,G,Q⟩;have c0:x.cell? ⟨w,a,none⟩=some c:=(y' hb).trans h0;have c1:x.cell? ⟨w,a+1,none⟩=some f:=(y' hb).trans h1;have az:x.frozen? ⟨w,a+1,none⟩=false:=by simp[World.frozen?,hb]
 have aA:= @run_makeMap prog;have aB:∀y:World,(binOp .eql 137 (.map none) (.map none)).run prog y= .ok (.bool true) y:=fun y=>by kernel_rfl
 have aC:∀ (y:World) (m:Nat),(binOp .eql 137 (.map (some m)) (.map none)).run prog y= .ok (.bool false) y:=fun y m=>by kernel_rfl
 have ad:(x.alloc (.map #[] 0)).heap[w]? =some (.cells l j (0,0)):=(z25 x _ w (z14 hb)).trans hb;have aD:(x.alloc (.map #[] 0)).cell? ⟨w,a+1,none⟩=some f:=(y' ad).trans h1;have aE:(x.alloc (.map #[] 0)).frozen? ⟨w,a+1,none⟩=false:=by simp[World.frozen?,ad]
 rcases S.map with ⟨rfl,ah⟩|⟨V,rfl,ah⟩;all_goals
  go_upto_region 3 with fail
  refine G' (fun y=>∃V,y.heap[w]? =some (.cells (l.setIfInBounds (a+1) (.map (some V))) j (0,0))/\y.heap[p.heap.size]? =some (.cells #[.string b, .int .i64 F] 158 (0,0))/\Jc y c (d.map (·.1))/\Xd y V (al' d)/\
   Far (fun k=>k=w) p y/\p.heap.size < y.heap.size/\(be' ax=some V\/p.heap.size<=V)) ?_ ?_
 ·refine⟨x.heap.size,aa' ad,(P' (by omega)).trans ((z25 x _ _ Q).trans H),?_,?_,?_,?_, .inr (qg' Q)⟩
  ·exact S.nums.keep (fun g M=>(P' (fun e=>S.ne hb ab (.inl (by rw[<-e];exact M)))).trans (z25 x _ g (z15 S.nums g M).2))
  ·rw[ah];exact(gi' x).keep (P' (by have:=z14 hb;omega))
  ·exact((G.mono (fun _ _ h=>h.elim)).trans (C' ((z11 _ x).alloc (z13 _) _)) (fun _ _ h=>h)).trans (Q' _ w (a+1) _) (fun _ _ h=>h)
  ·simp;omega
 rotate_left
 ·refine⟨V,by rw[bs' h1];exact hb,H,S.nums,ah,G.mono (fun _ _ h=>h.elim),Q, .inl (by rw[d' ac];rfl)⟩
 all_goals
  have hs:=m' S.sorted;clear c0 c1 ad aD aE az H S ah hb Q aA aB aC G ay;rintro y ⟨I,hb,H,N,J,aq,Q,aF⟩;have aG:a < l.size:=(z21.1 h0).1;have ao:a+1 < l.size:=(z21.1 h1).1;have a0:(l.setIfInBounds (a+1) (.map (some I)))[a]? =some c:=by rw[z16 (by omega)];exact h0
  have a1:(l.setIfInBounds (a+1) (.map (some I)))[a+1]? =some (.map (some I)):=by simp[ao]
  have c0:y.cell? ⟨w,a,none⟩=some c:=(y' hb).trans a0;have hk:=gl' (v:=cN' b F) (n:=n) (d' hs);have O:=cM' N (d' hs) (by simp;omega) n;have ap:(d.map (·.1)).countP (· < n)<=(d.map (·.1)).length:=z89;have aH:(d.map (·.1)).length < 1000:=by simpa using hl
  generalize (d.map (·.1)).countP (· < n)=k at hk O ap;generalize (d.map (·.1)).contains n=aI at hk O;generalize d.map (·.1)=ns at hk O ap N aH;replace hk:=m' hk;replace O:=m' O;cases aI
  case' false=>
   go_upto_region 4 with (go_at_call 132;refine(d' O).mono ?_;rintro e aJ ⟨rfl,q,rfl⟩)
   go_upto_region 6 with fail
   refine(fe' (w:=(y.drewN q).alloc (.cells #[.int .i64 n] 3)) (ns:=ns) (N.keep (fun g M=>z25 (y.drewN q) _ g (z15 N g M).2)) (by omega) k n y.heap.size ap (z19 (y.drewN q) _) (fun e=>by have:=(z15 N _ e).2;omega)).mono ?_;rintro e z ⟨nv',rfl,ai,aj,aK⟩;have ak:=aj.blk ((z25 (y.drewN q) _ w (z14 hb)).trans hb) (fun e=>(Qi.Qv N).ne hb (fun e=>ab e.symm) e);have aL:=aj.blk ((z25 (y.drewN q) _ _ Q).trans H) (fun e=>(Qi.Qv N).ne H (by decide) e);have aY:=(y' ak).trans a0;have aZ:z.frozen? ⟨w,a,none⟩=false:=(by simp[World.frozen?,ak]);obtain⟨aM,Z⟩:=exq (ns.take k++n::ns.drop k);rw[<-Z]at ai;obtain⟨g',aN,rfl⟩:=aJ' ai (by rw[Z];simp only[List.length_append,List.length_cons];omega);replace Z:=m' Z;go_upto_region 6 with fail
  case' true=>
   go_upto_region 4 with (go_at_call 132;refine(d' O).mono ?_;rintro e aJ ⟨rfl,q,rfl⟩)
   go_upto_region 6 with fail
  all_goals
   refine G' (fun z=>∃nv',z.heap[w]? =some (.cells ((l.setIfInBounds a nv').setIfInBounds (a+1) (.map (some I))) j (0,0))/\z.heap[p.heap.size]? =some (.cells #[.string b, .int .i64 F] 158 (0,0))/\Jc z nv' ((br' d n (cN' b F)).map (·.1))/\Xd z I (al' d)/\
    Far (fun k=>k=w\/c.ownBlock=some k) p z/\Loc p c nv') ?_ ?_
  ·have aa:=d' hk;simp only[if_true]at aa;refine⟨c,?_,H,by rw[aa];exact N,J,(aq.mono (fun _ _ h=> .inl h)).trans (aw' _ y q) (fun _ _ h=>h), .inr (.inl rfl)⟩;rw[bs' h0];exact hb
  rotate_left
  ·have aO:c.ownBlock≠some I:=N.Vd J;have aP:∀g,(Value.slice (some ⟨g',0,none⟩) aM.length aN).ownBlock=some g->g≠w:=fun g M e=>(Qi.Qv ai).ne ak (fun e=>ab e.symm) (by rw[M,e]);have aa:=d' hk;simp only[Bool.false_eq_true,if_false]at aa;have au:Far (fun _=>False) y ((y.drewN q).alloc (.cells #[.int .i64 n] 3)):=(aw' (fun _=>False) y q).trans (C' ((z11 _ _).alloc (z13 _) _)) (fun _ _ h=>h);have aQ:Far (fun b=>b=w\/c.ownBlock=some b) p z:=(aq.mono (fun _ _ h=> .inl h)).trans ((au.mono (fun _ _ h=>h.elim)).trans aj (fun _ _ h=>h)) (fun _ _ h=> .inr h);refine⟨_,?_,(P' (by have:=z14 Y;omega)).trans aL,?_,?_,aQ.trans (Q' z w a _) (fun _ _ h=> .inl h),bT' aK (by simp;omega)⟩
   ·rw[set_comm _ _ (show a≠a+1 by omega)];exact aa' ak
   ·rw[aa,<-d' Z];exact ai.keep (fun g M=>P' (aP g M))
   ·exact J.keep ((P' (fun e=>J.Qy (by rw[e];exact hb))).trans ((aj.rest _ (by have:=J.lt;simp;omega) aO).trans (au.rest _ J.lt id)))
  all_goals
   rintro z ⟨nv',hb,H,aR,J,G,aS⟩;obtain⟨av,aT,aU⟩:=dQ' (P:=prog) (w:=z) (t:=137) underlying137 underlying3 J n (cN' b F);have aV:=aT z.drew rfl;unfold cN' at aV;have c1:z.cell? ⟨w,a+1,none⟩=some (.map (some I)):=(y' hb).trans (by simp[ao]);obtain⟨aW,aX⟩:=cW' H;simp at aW aX;go_region;refine z77 (z65 rfl _ _ _) rfl ⟨rfl,?_⟩;exact kg' (v:=cN' b F) (W:={z.drew with heap:=z.drew.heap.setIfInBounds I av}) aG ao hb ab aR J G aS aF aU ((aw' _ z 1).trans (ci' I av) (fun _ _ h=>h)) (d' hs) hl
theorem qm' {w:World} {p o:Nat} {arr:Array Value} {t:TypeId} {nv mv:Value} {l:List (Nat×Value)} (hb:w.heap[p]? =some (.cells arr t (0,0))) (h0:arr[o]? =some nv) (S:Jb w nv mv l):
  Calls prog 143 #[.pointer (some ⟨p,o,none⟩)] w fun e w'=>e= .returned (.int .i64 l.length)/\w'=w:=by
 have c0:w.cell? ⟨p,o,none⟩=some nv:=(y' hb).trans h0;have hl:(l.map (·.1)).length=l.length:=z43 _;rcases S.nums.cases with ⟨rfl,z⟩|⟨g,cap,H,rfl,F,hn,I,z,G⟩
 ·obtain rfl:l=[]:=by simpa using z
  go_enter func143,ntmps143;go_wp2;go_ret;exact⟨rfl,rfl⟩
 ·rw[hl]at c0;clear hb S h0 F hn G hl;generalize l.length=n at *;go_enter func143,ntmps143;go_wp2;go_ret;exact⟨rfl,rfl⟩
theorem ww':(J' ((d++[cI]).map (·.1)))[d.length]? =some (.int .i64 (cI.1:Int)):=by
 simp[J']
theorem nq' (hb:p.heap[w]? =some (.cells l j (0,0))) (h0:l[a]? =some c) (S:Jb p c f d):
  Calls prog 129 #[.pointer (some ⟨w,a,none⟩)] p fun e w'=>e= .returned (.tuple #[.int .i64 (match d.getLast? with|none=>0|some x=>x.1:Nat), .bool d.getLast?.isSome])/\∃n,w'=p.drewN n:=by
 have c0:p.cell? ⟨w,a,none⟩=some c:=(y' hb).trans h0;have hl:(d.map (·.1)).length=d.length:=z43 _;rcases wo' d with rfl|⟨z,x,F⟩
 ·obtain⟨Q,cap,e,_⟩:=(Qi.Qv S.nums).shape;subst e;simp only[List.map_nil,List.length_nil]at c0;clear hb S h0 hl;go_enter func129,ntmps129;go_wp2;go_ret2;exact⟨rfl,0,rfl⟩
 ·obtain rfl:d=z++[x]:=by rw[F,wp']
  clear F;rcases S.nums.cases with ⟨rfl,G⟩|⟨g,cap,V,rfl,J,hn,Y,G,M⟩
  ·simp at G
  ·have H:((z++[x]).map (·.1)).length=z.length+1:=(by simp);have Z:p.cell? ⟨g,z.length,none⟩=some (.int .i64 (x.1:Int)):=(by rw[z59 S.nums z.length (by simp)];exact ww');have O:=S.len;simp only[List.length_append,List.length_singleton]at O;rw[H]at c0;have I:(z++[x]).getLast?=some x:=(by simp);rw[I];clear hb S h0 J hn M hl H I;generalize z.length=n at *;have aa:IntKind.i64.wrap ((n:Int)+1 - 1)=n:=(by rw[z36];omega);go_enter func129,ntmps129;go_wp2;go_quiet (fail);go_wp2;go_ret2;exact⟨rfl,_,rfl⟩
def bA' (l:List (Nat×Value)) (n:Nat):Nat:=l.countP (·.1<=n)
theorem yj' (hs:k.Pairwise (· < ·)):k.countP (· < w)+(if k.contains w then 1 else 0)=k.countP (· <=w):=by
 induction k with
 |nil=>rfl
 |cons x r ih=>
  rw[z60]at hs;obtain⟨h0,hs⟩:=hs;have ih:=ih hs;rw[rW',rW',yf'];by_cases h1:x=w
  ·subst h1;have hn:r.contains x=false:=by
    cases h:r.contains x with
    |false=>rfl
    |true=>have:=h0 x (by simpa using h);omega
   rw[hn]at ih;simp only[Bool.false_eq_true,if_false,Nat.add_zero]at ih;simp[ih]
  ·have z:(w==x)=false:=(by simp;omega);rw[z,yg'];generalize (if r.contains w=true then 1 else 0)=F at *;by_cases h2:x < w
   ·have h3:x<=w:=(by omega);simp only[h2,h3,decide_true,if_true];omega
   ·have h3:¬x<=w:=(by omega);simp only[h2,h3,decide_false,Bool.false_eq_true,if_false];omega
theorem wx' {n:Nat} (hs:(d.map (·.1)).Pairwise (· < ·)):(d.map (·.1)).countP (· < n)+(if(d.map (·.1)).contains n then 1 else 0)=bA' d n:=by
 rw[yj' hs,List.countP_map];rfl
theorem wy' (l:List (Nat×Value)) (n:Nat):bA' l n<=l.length:=z89
theorem uH' {n:Nat} (hs:(d.map (·.1)).Pairwise (· < ·)):(∀x∈d.take (bA' d n),x.1<=n)/\∀x∈d.drop (bA' d n),n < x.1:=by
 induction d with
 |nil=>simp[bA']
 |cons x r ih=>
  rw[z48,z60]at hs;obtain⟨h0,hs⟩:=hs;obtain⟨G,H⟩:=ih hs;by_cases h:x.1<=n
  ·have F:bA' (x::r) n=bA' r n+1:=(by simp[bA',h]);rw[F,wq',wr'];refine⟨fun y z=>?_,H⟩;cases z with
   |head=>exact h
   |tail _ z=>exact G y z
  ·have F:bA' (x::r) n=0:=by
    unfold bA';rw[xJ'];intro y z;cases z with
    |head=>simpa using h
    |tail _ z=>have:=h0 y.1 (z63.2 ⟨y,z,rfl⟩);simp;omega
   rw[F];refine⟨by simp,fun y z=>?_⟩;cases z with
   |head=>omega
   |tail _ z=>have:=h0 y.1 (z63.2 ⟨y,z,rfl⟩);omega
theorem lc' (h:∀y∈d,cI.1 < y.1):mB' (al' (cI::d)) cI.1=al' d:=by
 funext k;unfold mB';by_cases hk:k=(cI.1:Int)
 ·rw[if_pos hk];cases z:al' d k with
  |none=>rfl
  |some v=>obtain⟨y,F,e,_⟩:=dE' z;have:=h y F;omega
 ·rw[if_neg hk,cj',if_neg hk]
theorem Far.behind {E:Nat->Prop} {w:World} (h:Far E w p) (z:Below w.heap.size p u):Far E w u:=
 ⟨z.os.trans h.os,z.tape.trans h.tape,z.output.trans h.output,z26 h.size z.size,fun k hk F=>(z.block k hk).trans (h.rest k hk F)⟩
theorem dz' {w':World} (h:p.ownsRow w j a c q t) (hk:∀g,c.ownBlock=some g->w'.heap[g]? =p.heap[g]?):w'.ownsRow w j a c q t:=by
 obtain⟨h1,h2⟩:=h;refine⟨h1,?_⟩;rcases h2 with h2|⟨g,cap,z,rfl,hb,F,r⟩
 ·exact .inl h2
 ·exact .inr ⟨g,cap,z,rfl,hb,by rw[hk g rfl];exact F,r⟩
def fR':Value->List Value
 | .agg a=>a.toList
 |v=>[v]
def eS' (l:List (Nat×Value)):List Value:=l.flatMap fun x=>fR' x.2
theorem nr' (l:List (Nat×Value)) (x:Nat×Value):eS' (l++[x])=eS' l++fR' x.2:=by simp[eS']
structure Vr (w x:World) (p o:Nat) (t:TypeId) (arr:Array Value) (nv mv:Value) (l':List (Nat×Value)):Prop where
 out:∃nv',eR' x p o t (arr.setIfInBounds o nv') nv' mv l'/\nv'.ownBlock=nv.ownBlock
 far:Far (fun k=>k=p\/ShU nv mv k) w x
theorem Vr.step {x:World} (h:Vr p x w a j l c f d) (h1:l[a+1]? =some f):cq' p x w a j l c f d:=by
 obtain⟨nv',S,e⟩:=h.out;have z:(l.setIfInBounds a nv').setIfInBounds (a+1) f=l.setIfInBounds a nv':=bs' (by rw[z16 (by omega)];exact h1);exact⟨⟨nv',f,by rw[z];exact S, .inr (.inl e), .inl rfl⟩,h.far⟩
theorem zG':(prog.info? 158).map (fun i=>(i.zero,i.size,i.bytes))=some (some (.agg #[.string ⟨#[]⟩, .int .i64 0]),2,24):=by kernel_rfl
theorem mE' (S:eR' p w a j l c f d) (A:ou' d) (n:Nat):
  Calls prog 200 #[.pointer (some ⟨w,a,none⟩), .int .i64 n] p fun e w'=>∃v,e= .returned v/\
   w'.ownsRow p.heap.size 158 2 v (bA' d n) (eS' (d.take (bA' d n)))/\Vr p w' w a j l c f (d.drop (bA' d n)):=by
 obtain⟨ab,h0,h1,S,aq⟩:=S;have aN:a < l.size:=(z21.1 h0).1;have bG:a+1 < l.size:=(z21.1 h1).1;have c0:p.cell? ⟨w,a,none⟩=some c:=(y' ab).trans h0;have bH:=S.len;have ac:=cM' S.nums S.sorted (by simp;omega) n;have hcut:=wx' (n:=n) S.sorted;have aO:=wy' d n;have aP:(d.map (·.1)).countP (· < n)<=d.length:=by have:=z89 (p:=(· < n)) (l:=d.map (·.1));simpa using this
 obtain⟨i0,hi,bf,bg,bh⟩:=au' zG';generalize bA' d n=V at *;generalize (d.map (·.1)).countP (· < n)=k0 at *;generalize (d.map (·.1)).contains n=aD at *;have G:(d.map (·.1)).length=d.length:=z43 _;have ad:=m' S;have bI:=m' G;replace ac:=m' ac;rcases S.nums.cases with ⟨au,aQ⟩|⟨g,cap,bJ,au,aR,hn,aS,bK,bi⟩
 ·subst au;obtain rfl:d=[]:=by simpa using aQ
  obtain rfl:V=0:=by simpa using aO
  obtain rfl:k0=0:=by simpa using aP
  have aS:aD=false:=by cases aD <;> simp_all
  subst aS;have M:=fun y:World=>ej' (cb' y) 0 0 (by omega) (by simp);simp only[show((0:Nat):Int)=0 from rfl,List.take_nil,List.drop_nil,List.nil_append]at M;have bj:=fun y=>m' (M y);clear S G M hcut aP aO aQ;simp only[show((0:Nat):Int)=0 from rfl]at ac;go_enter func200,ntmps200;go_upto_region 5 with (go_at_call 132;refine(d' ac).mono ?_;rintro e y ⟨rfl,q,rfl⟩);go_wp2;go_loopw[5,9,29] (fun v5 _ i wr=>v5= .slice none 0 0/\i= .int .i64 0/\wr=p.drewN q) (fun _ _ i _=>0)
  case atStart=>exact⟨rfl,rfl,rfl⟩
  case round=>
   obtain⟨rfl,rfl,rfl⟩:=hrel;go_upto_region 12 with fail;refine(d' (bj _)).mono ?_;rintro e F ⟨nv',rfl,O,H,Y⟩;obtain rfl:nv'= .slice none 0 0:=by
    rcases O.cases with ⟨h,_⟩|⟨g',aT,bL,rfl,_⟩
    ·exact h
    ·cases Y
   have ai:Far (fun _=>False) p F:=(aw' (fun _=>False) p q).trans (H.mono (fun _ _ h=>by cases h)) (fun _ _ h=>h);have Z:=ai.blk ab id;have bk:=(y' Z).trans h0;have bl:F.frozen? ⟨w,a,none⟩=false:=(by simp[World.frozen?,Z]);replace O:=m' O;replace ai:=m' ai;clear H Y;go_wp2;go_ret;have av:=d' ad;have bM:F.setCell ⟨w,a,none⟩ (.slice none 0 0)=F.setCell ⟨w,a,none⟩ (.slice none 0 0):=rfl;refine⟨_,rfl,z27 _ _ _ _,⟨_,⟨aa' Z,by simp[aN],by rw[z16 (by omega)];exact h1,⟨cb' _,(av.far (d' ai) (fun _ _ h=>h)).map.keep (fun b I=>P' (fun e=>?_)),by simp,by simp⟩,aq⟩,rfl⟩,((d' ai).mono (fun _ _ h=>h.elim)).trans (Q' F w a _) (fun _ _ h=> .inl h)⟩;exact av.ne ab aq (.inr (by rw[I,e]))
 ·rw[G]at au hn;subst au;have bN:=m' S.nums;cases aD;all_goals
   simp only[if_true,if_false,Bool.false_eq_true,Nat.add_zero]at hcut;clear S bi G;try (rw[hcut]at ac)
   have bm:((k0:Int)+1=(V:Int))=((k0:Int)+1=(V:Int)):=rfl;try (have bm:(k0:Int)+1=V:=by omega)
   replace hcut:=m' hcut;go_enter func200,ntmps200;go_upto_region 5 with (go_at_call 132;refine(d' ac).mono ?_;rintro e y ⟨rfl,q,rfl⟩)
  all_goals
   go_wp2;go_loopw[5,9,29] (fun v5 _ i wr=>∃k:Nat,k<=V/\i= .int .i64 k/\wr.ownsRow p.heap.size 158 2 v5 k (eS' (d.take k))/\wr.heap[w]? =some (.cells l j (0,0))/\Jc wr (.slice (some ⟨g,0,none⟩) d.length cap) (d.map (·.1))/\jU' wr f (al' (d.drop k))/\Far (fun b=>be' f=some b) p wr) (fun _ _ i _=>d.length - (intOf i).toNat)
   case atStart=>exact⟨0,by omega,rfl,z27 _ _ _ _,ab,(d' ad).nums,by rw[List.drop_zero];exact(d' ad).map,aw' _ p q⟩
   case round=>
    obtain⟨k,hk,rfl,ax,hb,N,aE,ay⟩:=hrel;by_cases bO:k < V
    ·have G:k < d.length:=(by omega);obtain⟨b,bn,az⟩:=A d[k] (z81 G);have aA:d.drop k=d[k]::d.drop (k+1):=xX' G;have Q:al' (d.drop k) (d[k].1:Int)=some d[k].2:=(by rw[aA,cj',if_pos rfl]);have aU:=(d' ad).sorted;have aV:∀y∈d.drop (k+1),d[k].1 < y.1:=fun y bo=>(by have h1:((d.drop k).map (·.1)).Pairwise (· < ·):=(by rw[uB'];exact aU.drop);rw[aA,z48,z60]at h1;exact h1.1 y.1 (z63.2 ⟨y,bo,rfl⟩));have aF:=lc' aV;rw[<-aA]at aF;have aG:eS' (d.take (k+1))=eS' (d.take k)++fR' d[k].2:=(by rw[<-nr',sC',z18 G];rfl);have c0:=(y' hb).trans h0;have c1:=(y' hb).trans h1;have bP:wr.cell? ⟨g,k,none⟩=some (.int .i64 (d[k].1:Int)):=(by rw[N.cell' (by simpa using G)];simp[List.getD_eq_getElem?_getD,G]);rcases aE with ⟨rfl,aj⟩|⟨J,rfl,aj⟩
     ·rw[aj]at Q;cases Q
     have aW:=(bw' (P:=prog) (w:=wr) (t:=137) underlying137 underlying3 (sD' wr) (.inr ⟨J,rfl,aj⟩) (d[k].1:Int)).2;rw[Q,az]at aW;rw[az]at aG;simp only[Option.getD_some,cN']at aW;have bp:=m' aG;have bq:=m' aF;have ak:=m' ax;have ao:=m' N;have ah:=m' aj;have aB:=m' ay;have bQ:=m' az;clear ax N aj ay aG aF Q az aA aV aU;generalize aX:d[k].1=br at *;replace aX:=m' aX;have aY:=(d' aB).size;have bt:J < p.heap.size:=(d' ad).map.lt J rfl;have aZ:=z14 ab;have bu:=fun g' (z:u5.ownBlock=some g')=>z15 (d' ak) g' z;go_upto_region 9 with (at_builtin;refine z62 _ rfl (.tmp 33) (.tmp 40) 272 rfl p.heap.size 158 i0 (.agg #[.string ⟨#[]⟩, .int .i64 0]) 2 24 underlying272 hi bf bg bh rfl (by decide) u5 k (eS' (d.take k)) rfl ((d' ak).alloc _) ⟨wr.heap.size,0,none⟩ 1 1 (fR' (cN' b bn)) rfl rfl aq' (by intro u hu;simp[fR',cN']at hu;first|(rcases hu with rfl|rfl <;> rfl)|(subst hu;rfl)) (by unfold maxLen;omega) (by omega) (by simp;omega) ?_;intro v' w1 ap ba _;have aa:Below p.heap.size wr w1:=((z11 _ wr).alloc aY _).trans (Y' (B:=p.heap.size) ba (by simp;omega) (fun g' z=>(bu g' z).1));obtain⟨aH,bb,aI⟩:=fc' (P:=prog) (w:=w1) (t:=137) (K':=3) underlying137 underlying3 ((d' ah).keep (aa.block J bt)) br;have bR:=fun ty=>bb ty w1 rfl;have aJ:=(aa.block w aZ).trans hb;have bS:=(y' aJ).trans h1;replace ap:=m' ap;replace aI:=m' aI;replace aa:=m' aa;clear ba bb);go_wp2;have bw:w≠J:=fun e=>(d' ah).Qy (by rw[<-e];exact hb);have bz:=(d' ao).Vd (d' ah);have bT:=(z15 (d' ao) g rfl).2;have aK:g < p.heap.size:=z14 aR;have aC:=ci' (w:=w1) J aH;have bA:=(d' ao).keep (w':={w1 with heap:=w1.heap.setIfInBounds J aH}) (fun g' z=>by cases z;exact(aC.rest g (z20 aK (z26 aY (d' aa).size)) (fun e=>bz (by rw[e];rfl))).trans ((d' aa).block g aK));have bB:=dz' (w':={w1 with heap:=w1.heap.setIfInBounds J aH}) (d' ap) (fun g' z=>aC.rest g' (z15 (d' ap) g' z).2 (fun e=>by have:=(z15 (d' ap) g' z).1;omega));refine⟨⟨k+1,by omega,by go_num,by rw[d' bp];exact bB,(aC.rest w (z14 aJ) bw).trans aJ,bA, .inr ⟨J,rfl,by rw[<-d' bq];exact d' aI⟩,
      ((d' aB).behind (d' aa)).trans aC (fun _ _ h=>by rw[h];rfl)⟩,by simp[intOf];omega⟩
    ·obtain rfl:k=V:=(by omega);have ak:=m' ax;have ao:=m' N;have ah:=m' aE;have aB:=m' ay;have bC:(d.map (·.1)).length=d.length:=z43 _;have bc:g≠w:=fun e=>(Qi.Qv N).ne hb (fun e=>aq e.symm) (by rw[<-e];rfl);have c0:=(y' hb).trans h0;have M:=ej' N 0 k (by omega) (by omega);rw[show((0:Nat):Int)=0 from rfl,List.take_zero,z80,<-uB']at M;replace M:=m' M;clear ax N aE ay bC;go_upto_region 12 with fail;refine(d' M).mono ?_;rintro e F ⟨nv',rfl,O,H,Y⟩;have Z:=H.blk hb (fun e=>bc (by cases e;rfl));have bk:=(y' Z).trans h0;have bl:F.frozen? ⟨w,a,none⟩=false:=(by simp[World.frozen?,Z]);have Q:(List.map (fun x=>x.1) (List.drop k d)).length=d.length - k:=(by simp);have bd:=(Qi.Qv O).shape;rw[Q]at bd;obtain⟨bD,aT,rfl,_⟩:=bd;replace Q:=m' Q;replace O:=m' O;replace Y:=m' Y;replace H:=m' H;go_wp2;go_ret;have av:=d' ad;have bE:Far (fun b=>b=w\/ShU (.slice (some ⟨g,0,none⟩) d.length cap) f b) p F:=((d' aB).mono (fun _ _ h=> .inr (.inr h))).trans (d' H) (fun _ _ h=> .inr (.inl h));have aL:∀b,b≠w->(F.setCell ⟨w,a,none⟩ (.slice bD (d.length - k) aT)).heap[b]? =F.heap[b]? :=fun b hb=>P' hb;have be:∀b,be' f=some b->b≠w/\F.heap[b]? =wr.heap[b]? :=fun b I=>by
      rcases d' ah with ⟨h,_⟩|⟨bU,h,aM⟩
      ·rw[h]at I;cases I
      ·rw[h]at I;cases I;exact⟨fun e=>aM.Qy (by rw[e];exact hb),(d' H).rest b aM.lt (fun e=>(d' ao).Vd aM e)⟩
     refine⟨_,rfl,dz' (d' ak) (fun g' z=>?_),⟨_,⟨aa' Z,by simp[aN],by rw[z16 (by omega)];exact h1,⟨(d' O).keep (fun g' z=>aL g' ?_),(d' ah).keep (fun b I=>(aL b (be b I).1).trans (be b I).2),by rw[uB'];exact av.sorted.drop,by rw[z97];omega⟩,aq⟩,d' Y⟩,bE.trans (Q' F w a _) (fun _ _ h=> .inl h)⟩
     ·have bF:=z15 (d' ak) g' z;have aZ:=z14 ab;have aK:=z14 aR;exact(aL g' (by omega)).trans ((d' H).rest g' bF.2 (fun e=>by have bV:g=g':=mq' e;omega))
     ·rw[d' Y]at z;cases z;exact bc
theorem el' {P:Program} (w:World) (a:Addr) (ty:TypeId) (z:List Value) (G:∀j v,z[j]? =some v->w.cell? (a.add j)=some v)
  (H:(isAgg ty).run P w= .ok true w) (hi:(P.info? ty).map (·.size)=some z.length):
  (loadVar ty a).run P w= .ok (.agg z.toArray) w:=by
 have hl:(loadCells a z.length).run P w= .ok z.toArray w:=run_loadCells_list (P:=P) w a z G;cases F:P.info? ty with
 |none=>simp[F]at hi
 |some i=>
  have hs:i.size=z.length:=by simpa[F]using hi
  simp[loadVar,Sem.run_bind,H,sizeOf,typeInfo,F,hs,hl]
theorem jD' (w:World):(isAgg 261).run prog w= .ok true w:=by
 simp[isAgg,run_underlying underlying261]
theorem gM':(prog.info? 261).map (·.size)=some 65:=by kernel_rfl
variable{B:Array Oper}
theorem ib' {rest:List Oper} (G:N.guard=none) (x:Operand) (H:N.op= .load 261 x)
  (F:Addr) (J:I.eval x= .pointer (some F)) (z:List Value) (M:z.length=65) (O:∀j v,z[j]? =some v->p.cell? (F.add j)=some v)
  (h:wpList prog B Z rest (I.put N.dst (.agg z.toArray)) p):wpList prog B Z (N::rest) I p:=by
 refine pi' G fun K hK=>?_;unfold Oper.wp execOp;simp only[H,J,Instr.loadAt,Instr.sureAddr,Sem.run_bind,Sem.run_pure,Result.andThen_ok,el' p F 261 z O (jD' p) (by rw[gM',M])];exact hK _ _ h
theorem jW' {K:Act->World->Prop} (x:Operand) (G:N.op= .load 261 x)
  (F:Addr) (H:I.eval x= .pointer (some F)) (z:List Value) (J:z.length=65) (M:∀j v,z[j]? =some v->p.cell? (F.add j)=some v)
  (h:K (I.put N.dst (.agg z.toArray)) p):N.wp prog I p K Z:=by
 unfold Oper.wp execOp;simp only[G,H,Instr.loadAt,Instr.sureAddr,Sem.run_bind,Sem.run_pure,Result.andThen_ok,el' p F 261 z M (jD' p) (by rw[gM',J])];exact h
theorem nt' (w:World) (p:Nat) (lv z:Value) (n:Int) (hb:w.heap[p]? =some (.cells #[lv,z, .int .i64 n, .bool true] 252 (0,0))):
  Calls prog 183 #[.pointer (some ⟨p,0,none⟩)] w fun r w'=>r= .returned (.tuple #[])/\w'=w:=by
 have c3:w.cell? ⟨p,3,none⟩=some (.bool true):=y' (i:=3) hb;clear hb;go_enter func183,ntmps183;go_wp2;exact z50 (z65 rfl _ _ _) rfl ⟨rfl,rfl⟩
structure sE' (w x:World) (p:Nat) (lv:Value) (g o cap:Nat) (n:Int) (cs:List Value) (L:List UInt8):Prop where
 blk:x.heap[p]? =some (.cells #[lv, .slice (some ⟨g,o,none⟩) 1 cap, .int .i64 n, .bool false] 252 (0,0))
 un:Qi x 261 65 (.slice (some ⟨g,o,none⟩) 1 cap) 1 cs
 row:x.ownsRow 0 5 1 lv L.length (bv L)
 far:Far (fun j=>lv.ownBlock=some j) w x
theorem wz' (w:World) (p:Nat) (lv ab:Value) (n:Int) (k:Nat) (S L:List UInt8) (ak:S.length=64) (hk:64 * k+64<=L.length) (aF:L.length<=10000)
  (hb:w.heap[p]? =some (.cells #[lv,ab, .int .i64 n, .bool false] 252 (0,0))) (hu:Qi w 261 65 ab 1 (.int .i64 k::bv S)) (ao:w.ownsRow 0 5 1 lv L.length (bv L)):
  Calls prog 183 #[.pointer (some ⟨p,0,none⟩)] w fun r w'=>r= .returned (.tuple #[])/\
   ∃ac,w'.heap[p]? =some (.cells #[lv,ac, .int .i64 n, .bool false] 252 (0,0))/\ac.ownBlock=ab.ownBlock/\Qi w' 261 65 ac 0 []/\
    w'.ownsRow 0 5 1 lv (Mq.Xa L k S).length (bv (Mq.Xa L k S))/\Far (fun j=>j=p\/lv.ownBlock=some j) w w':=by
 obtain⟨F,M⟩:=exq (Value.int .i64 k::bv S);rw[<-M]at hu;have O:F.length=65:=by rw[M];simp[Z',ak]
 have aG:∀u∈F,u.oneCell'=true:=by
  rw[M];intro u hu;cases hu with
  |head=>rfl
  |tail _ hu=>exact dg' S u hu
 have aH:=m' M;clear M;obtain⟨aW,cap,rfl,aX,aI,V⟩:=hu.shape;obtain⟨g,o,rfl,Y⟩:=V (by omega);have aY:=z14 hb;have ap:sE' w w p lv g o cap n F L:=⟨hb,hu,ao,Far.refl _ _⟩;have c3:w.cell? ⟨p,3,none⟩=some (.bool false):=y' (i:=3) hb;have c1:w.cell? ⟨p,1,none⟩=some (.slice (some ⟨g,o,none⟩) 1 cap):=y' (i:=1) hb;have aq:=m' ap;clear hb hu ao ap Y V;go_enter func183,ntmps183;go_upto_region 2 with fail;go_wp2;go_loopw[3,13] (fun _ i wr=>∃j:Nat,j<=1/\i= .int .i64 j/\sE' w wr p lv g o cap n F (if j=0 then L else Mq.Xa L k S)) (fun _ i _=>1 - (intOf i).toNat)
 case atStart=>exact⟨0,by omega,rfl,d' aq⟩
 case round=>
  obtain⟨j,hj,rfl,z⟩:=hrel;clear aq c1 c3;rcases(show j=0\/j=1 by omega)with rfl|rfl
  ·have z:sE' w wr p lv g o cap n F L:=z;have c0:wr.cell? ⟨p,0,none⟩=some lv:=y' (i:=0) z.blk;have Y:∀j v,F[j]? =some v->wr.cell? ((⟨g,o,none⟩:Addr).add j)=some v:=(by obtain⟨aZ,aJ,e,_,_,V⟩:=z.un.shape;obtain⟨g',aK,aL,aM⟩:=V (by omega);cases e;cases aL;intro j v hj;have ba:j < 65:=(by rw[<-O];exact(z28.1 hj).1);rw[dG',aM j (by omega)];exact hj);have bb:=z14 z.blk;have J:=m' z;have au:=m' Y;clear z Y;go_upto_region 4 with (first
    |(refine ib' rfl (.tmp 15) rfl ⟨g,o,none⟩ rfl F O (d' au) ?_)
    |(refine wpList_store_row rfl 261 (.tmp 3) (.tmp 16) rfl wr.heap.size F.toArray rfl rfl 261 _ (z19 _ _) (by rw[gM'];simp[O]) (by simp[O]) (by rw[z49];intro v aN;exact aG v (by simpa using aN)) ?_;go_simp))
   refine G' (fun x=>x.heap[wr.heap.size]? =some (.cells F.toArray 261 (0,0))/\sE' w x p lv g o cap n F L) ?_ ?_
   ·have hF:Far (fun _=>False) wr ((wr.alloc (.cells Tryz.zeroCells261 261)).setRow wr.heap.size F.toArray):=
     ⟨rfl,rfl,rfl,by simp,fun k hk _=>(pu' _ _ k _ (by omega)).trans (hao _ _ hk)⟩
    refine⟨z92 _ _ _ _ _ _ (z19 _ _),hF.blk (d' J).blk (fun h=>h),(d' J).un.far hF (fun _ _ h=>h),aC' (d' J).row (fun g Q=>hF.rest g (z15 (d' J).row g Q).2 (fun h=>h)),(d' J).far.trans hF (fun _ _ h=>h.elim)⟩
   rintro x ⟨ad,H⟩;have av:x.cell? ⟨p,0,none⟩=some lv:=y' (i:=0) H.blk;have aO:=z14 H.blk;have aP:=z14 ad;have ax:=m' ad;have ay:=m' H;have ah:=fun y aQ=>m' (uF' y k S L lv ak hk aF aQ);rw[<-d' aH]at ah;clear ad H J au c0;refine ab'
    [Ev (.agg F.toArray),Ep p 0,Ep p 0,Ep p 0,Ev lv,Et]
    [[3],[0],[2018],[3019],[4020],[1017,5021]] [18,19,20,21,22,23] [17,6,9]
    5 _ rfl rfl ?_ ?_
   ·refine⟨?_,?_,?_,?_,?_,trivial⟩;all_goals
     intro a y hb az;have bc:=(hb.cell (p:=⟨p,0,none⟩) (by show p < _;omega)).trans av;have aA:=(hb.block _ aP).trans (d' ax);clear hb;simp[I']at az
    ·rw[if_pos (by rfl)];refine jW' (.tmp 3) rfl ⟨wr.heap.size,0,none⟩ (by simp[Act.eval,az]) F O ?_ ⟨_,rfl,z11 _ _,rfl⟩;intro j v hj;rw[dG',y' aA,yb',z44];exact hj
    all_goals
     clear aA;go_simp;try exact⟨_,rfl,z11 _ _,rfl⟩
     try exact z11 _ _
   ·intro f y hb Z;simp only[ag',List.take]at Z;have aB:=Z.1;have aC:=Z.2.2.2.2.1;simp only[O',aB,aC];have z:sE' w y p lv g o cap n F L:=by have H:=d' ay;exact⟨(hb.block _ aO).trans H.blk,H.un.keep (fun g Q=>hb.block g (H.un.lt g Q)),aC' H.row (fun g Q=>hb.block g (z15 H.row g Q).2),H.far.trans (C' (E:=fun _=>False) hb) (fun _ _ h=>h.elim)⟩
    have ai:=m' z;clear hb Z aB aC z ay ax av;go_simp;refine(d' (ah y (d' ai).row)).mono ?_;rintro r aR ⟨rfl,aD,aa⟩;have z:=d' ai;have aE:∀h,lv.ownBlock=some h->h≠p:=fun h I e=>(Qi.Qv z.row).ne z.blk (by decide) (by rw[I,e]);have G:sE' w aR p lv g o cap n F (Mq.Xa L k S):=
     ⟨aa.blk z.blk (fun e=>aE _ e rfl),z.un.far aa (fun h I e=>(Qi.Qv z.row).ty z.un (by decide) e I),aD,z.far.trans aa (fun _ _ h=>h)⟩
    have aS:=m' G;clear z G aD aa ai ah aE;go_wp2;exact⟨⟨1,by omega,by go_num,d' aS⟩,by simp[intOf]⟩
  ·have z:sE' w wr p lv g o cap n F (Mq.Xa L k S):=z;have c1:wr.cell? ⟨p,1,none⟩=some (.slice (some ⟨g,o,none⟩) 1 cap):=y' (i:=1) z.blk;have f1:wr.frozen? ⟨p,1,none⟩=false:=H' (i:=1) z.blk;have J:=m' z;clear z;go_wp2;refine z77 (z65 rfl _ _ _) rfl ⟨rfl,?_⟩;have G:=d' J;have aj:=Q' wr p 1 (.slice (some ⟨g,o,none⟩) 0 cap);refine⟨.slice (some ⟨g,o,none⟩) 0 cap,?_,rfl,?_,aC' G.row (fun h I=>aj.rest h (z15 G.row h I).2 (fun e=>(Qi.Qv G.row).ne G.blk (by decide) (by rw[I,e]))),?_⟩
   ·have:=aa' (j:=1) (v:= .slice (some ⟨g,o,none⟩) 0 cap) G.blk;simpa using this
   ·have h0:=G.un.far aj (fun h I e=>G.un.ne G.blk (by decide) (by rw[I,e]));obtain⟨_,h2⟩:=h0;rcases h2 with ⟨h2,_⟩|⟨g',aK,aJ,aT,aU,I,bd,be,aV,bf⟩
    ·cases h2
    ·cases aU;exact⟨by simp, .inr ⟨g,o,cap,aT,rfl,I,z54 _,aI,aV,by simp⟩⟩
   ·exact(G.far.mono (fun _ _ h=> .inr h)).trans aj (fun _ _ h=> .inl h)
theorem em' (w:World) (s dp k:Nat) (S:List UInt8) (ac:S.length=64) (e:Int) (R Q:World->Prop) (E:Nat->Prop)
  (hs:∀y,Below w.heap.size w y\/R y->y.cell? ⟨s,0,none⟩=some (D' dp))
  (V:∀y,Below w.heap.size w y->Calls prog 182 #[D' dp, .int .i64 k, .agg (bv S).toArray] y fun r w'=>r= .returned (.int .i64 e)/\R w'/\Far E y w')
  (ad:∀y z,R y->Below y.heap.size y z->R z)
  (Y:∀y,R y->Calls prog 183 #[D' dp] y fun r w'=>r= .returned (.tuple #[])/\Q w'):
  Calls prog 130 #[D' s, .int .i64 k, .agg (bv S).toArray] w fun r w'=>r= .returned (.int .i64 e)/\Q w':=by
 unfold D' at *;have Z:=m' hs;have ah:=m' V;have ai:=m' Y;clear hs V Y;go_enter func130,ntmps130;go_upto_region 1 with fail;refine G' (fun x=>x.heap[w.heap.size]? =some (.cells (bv S).toArray 207 (0,0))/\Below w.heap.size w x) ⟨z19 w _,(z11 _ _).alloc (z13 _) _⟩ ?_;rintro x ⟨h0,aa⟩;have aq:=z14 h0;have aj:=m' h0;have H:=m' aa;clear h0 aa;refine af'
  [Ep s 0,Ep s 0,Ep s 0,Ep dp 0,Ei k,Ev (.agg (bv S).toArray),fun v y=>v= .int .i64 e/\R y,Ei e]
  [[0],[1008],[2009],[3010],[1],[5],[4011,5012,6013],[7014]] [9,10,11,12,13,14,15,8] [7,8,6]
  [(6,E)] ?_ ?_ (hst:=by repeat' (first|exact V' _|exact(fun _ y z h hb=>⟨h.1,ad y z h.2 hb⟩)|exact trivial|apply z12))
 ·refine⟨?_,?_,?_,?_,?_,?_,?_,?_,trivial⟩;all_goals
   intro a z hb I;simp[I']at I
  ·go_simp;exact⟨_,rfl,Far.refl _ _,rfl⟩
  ·go_simp;exact⟨_,rfl,Far.refl _ _,rfl⟩
  ·go_simp;exact⟨_,rfl,Far.refl _ _,rfl⟩
  ·have G:Below w.heap.size w z:=(d' H).trans ((hb.below (B:=x.heap.size) (z13 _) (by rintro j hj ⟨q,F,g1,g2,ab⟩;simp at F;subst F;exact absurd (show bJ' _ 6 3=false from g2) (by decide+kernel))).mono (d' H).size);have c0:=(d' Z) z (.inl G);clear G;go_simp;exact⟨_,rfl,Far.refl _ _,rfl⟩
  ·go_simp;exact⟨_,rfl,Far.refl _ _,rfl⟩
  ·have d1:=hb.blk (d' aj) (by rintro⟨q,F,g1,g2,ab⟩;simp at F;subst F;exact absurd (show bJ' _ 6 5=false from g2) (by decide+kernel));rw[if_pos (by rfl)];refine cE' (.tmp 5) rfl w.heap.size (by simp[Act.eval,I]) 207 S ac d1 ?_;exact⟨_,rfl,Far.refl _ _,rfl⟩
  ·have G:Below w.heap.size w z:=(d' H).trans ((hb.below (B:=x.heap.size) (z13 _) (by rintro j hj ⟨q,F,g1,g2,ab⟩;simp at F;subst F;exact g1 rfl)).mono (d' H).size);have M:=m' ((d' ah) z G);clear G;go_simp;refine(d' M).mono ?_;rintro r w1 ⟨rfl,ak,hF⟩;exact⟨_,rfl,an' (.head _) hF,rfl,ak⟩
  ·obtain⟨I,_⟩:=I;go_simp;exact⟨_,rfl,Far.refl _ _,rfl⟩
 ·intro f z hF O;have J:=O.2.2.2.2.2.2.1;have ao:=O.2.2.2.2.2.2.2.1;have au:=m' J.2;have c0:=(d' Z) z (.inr J.2);have M:=m' ((d' ai) z J.2);clear O hF J;simp only[O',ao];go_simp;go_wp2_with (go_at_call 183;refine(d' M).mono ?_;rintro r u ⟨rfl,ap⟩);go_ret;exact⟨rfl,ap⟩
variable{cB:Mq.Dk}
theorem ey' (D:Yd p w cB c f) (hs:p.heap[a]? =some (.cells l j aN)) (h1:252≠j) (h2:5≠j) (h3:261≠j):¬DkU w c f a:=by
 rintro(h|h|h)
 ·subst h;have:=D.blk;rw[hs]at this;injection this with this;injection this with _ this _;exact h1 this.symm
 ·exact(Qi.Qv D.row).ne hs h2 h
 ·exact D.un.ne hs h3 h
theorem fS' (w:World) (s dp:Nat) (lv F a b c:Value) (d:Mq.Dk) (k:Nat) (S:List UInt8) (M:S.length=64) (hk:64 * k+64<=d.bytes.length)
  (hs:w.heap[s]? =some (.cells #[D' dp,a,b,c] 203 (0,0))) (D:Yd w dp d lv F):
  Calls prog 130 #[D' s, .int .i64 k, .agg (bv S).toArray] w fun r w'=>r= .returned (.int .i64 (d.put k S).1)/\
   ∃J,Yd w' dp (d.put k S).2 lv J/\Loc w F J/\Far (DkU dp lv F) w w':=by
 have Y:=ey' D hs (by decide) (by decide) (by decide);have ac:=D.lt;have c0:∀y,Far (DkU dp lv F) w y->y.cell? ⟨s,0,none⟩=some (D' dp):=fun y hF=>y' (i:=0) (hF.blk hs Y);by_cases hd:d.dead=true
 ·rw[Mq.Dk.put,if_pos hd];have hb:=D.blk;rw[hd]at hb;refine(em' w s dp k S M 3 (fun y=>Below w.heap.size w y) (fun y=>Below w.heap.size w y) (fun _=>False) ?_ ?_ ?_ ?_).mono ?_
  ·rintro y (h|h)
   ·exact c0 y (C' h)
   ·exact c0 y (C' h)
  ·intro y z;refine(kV' y dp lv F d.Zo k S ((z.block _ (z14 hb)).trans hb)).mono ?_;rintro r H ⟨rfl,Q⟩;exact⟨rfl,z.trans (Q.mono z.size),C' Q⟩
  ·exact fun y H h hb=>h.trans (hb.mono h.size)
  ·intro y z;refine(nt' y dp lv F d.Zo ((z.block _ (z14 hb)).trans hb)).mono ?_;rintro r H ⟨rfl,rfl⟩;exact⟨rfl,z⟩
  ·rintro r y ⟨rfl,z⟩;exact⟨rfl,F,D.far (C' (E:=fun _=>False) z) (fun _ _ h=>h), .inr (.inl rfl),C' z⟩
 ·have hd:d.dead=false:=by cases h:d.dead with|true=>exact absurd h hd|false=>rfl
  have hb:=D.blk;rw[hd]at hb;by_cases O:d.Zo=1
  ·rw[Mq.Dk.put,if_neg (by simp[hd]),if_pos O];rw[O]at hb;refine(em' w s dp k S M 4 (fun y=>y.heap[dp]? =some (.cells #[lv,F, .int .i64 1, .bool true] 252 (0,0))/\Far (fun j=>j=dp) w y) (fun y=>y.heap[dp]? =some (.cells #[lv,F, .int .i64 1, .bool true] 252 (0,0))/\Far (fun j=>j=dp) w y) (fun j=>j=dp) ?_ ?_ ?_ ?_).mono ?_
   ·rintro y (h|h)
    ·exact c0 y (C' h)
    ·exact c0 y (h.2.mono (fun _ _ e=> .inl e))
   ·intro y z;refine(kW' y dp lv F k S ((z.block _ (z14 hb)).trans hb)).mono ?_;rintro r H ⟨rfl,Q,hF⟩;exact⟨rfl,⟨Q,(C' (E:=fun j=>j=dp) z).trans hF (fun _ _ h=>h)⟩,hF⟩
   ·exact fun y H h hb=>⟨(hb.block _ (z14 h.1)).trans h.1,h.2.trans (C' (E:=fun _=>False) hb) (fun _ _ h=>h.elim)⟩
   ·intro y z;refine(nt' y dp lv F 1 z.1).mono ?_;rintro r H ⟨rfl,rfl⟩;exact⟨rfl,z⟩
   ·rintro r y ⟨rfl,z,hF⟩;refine⟨rfl,F,⟨by rw[O];exact z,aC' D.row (fun g G=>hF.rest g (z15 D.row g G).2 (fun e=>(Qi.Qv D.row).ne hb (by decide) (by rw[G,e]))),D.un.far hF (fun g G e=>D.un.ne hb (by decide) (by rw[G,e])),D.len,D.arm⟩, .inr (.inl rfl),hF.mono (fun _ _ e=> .inl e)⟩
  ·rw[Mq.Dk.put,if_neg (by simp[hd]),if_neg O];have ad:=D.un.ne hb (by decide);have Z:=(Qi.Qv D.row).ne hb (by decide);refine(em' w s dp k S M 0 (fun y=>yi' w dp lv F (d.Zo - 1:Nat) (.int .i64 k::bv S) y/\Far (fun j=>j=dp\/F.ownBlock=some j) w y)
    (fun y=>∃J,Yd y dp {bytes:=Mq.Xa d.bytes k S,Zo:=d.Zo - 1,dead:=false} lv J/\Loc w F J/\Far (DkU dp lv F) w y) (fun j=>j=dp\/F.ownBlock=some j) ?_ ?_ ?_ ?_).mono ?_
   ·rintro y (h|h)
    ·exact c0 y (C' h)
    ·exact c0 y (h.2.mono (fun _ _ e=>e.elim .inl (fun e=> .inr (.inr e))))
   ·intro y z;refine(ot' y dp lv F d.Zo k S M O D.arm ((z.block _ (z14 hb)).trans hb) (D.un.keep (fun g G=>z.block g (D.un.lt g G)))).mono ?_;rintro r H ⟨rfl,⟨v,g1,g2,I,V⟩,hF⟩;exact⟨rfl,⟨⟨v,g1,g2,bT' I z.size,z26 z.size V⟩,(C' (E:=fun j=>j=dp\/F.ownBlock=some j) z).trans hF (fun _ _ h=>h)⟩,hF⟩
   ·exact fun y H h hb=>⟨jC' w dp lv F _ _ undef y H h.1 hb,h.2.trans (C' (E:=fun _=>False) hb) (fun _ _ h=>h.elim)⟩
   ·rintro y ⟨⟨v,g1,g2,I,V⟩,hF⟩;have aa:=aC' D.row (w':=y) (fun g G=>hF.rest g (z15 D.row g G).2 (by
     rintro(e|e)
     ·exact Z (by rw[G,e])
     ·exact(Qi.Qv D.row).ty D.un (by decide) G e))
    refine(wz' y dp lv v _ k S d.bytes M hk D.len.2 g1 g2 aa).mono ?_;rintro r H ⟨rfl,J,k1,k2,k3,k4,k5⟩;refine⟨rfl,J,⟨k1,k4,k3,by rw[Mq.Jv M hk];exact D.len,by have:=D.arm;show d.Zo - 1<= _;omega⟩,?_,?_⟩
    ·rcases I with I|I|⟨g,I,ab⟩
     ·exact .inl (by rw[k2];exact I)
     ·exact .inr (.inl (by rw[k2];exact I))
     ·exact .inr (.inr ⟨g,by rw[k2];exact I,ab⟩)
    ·refine(hF.mono (fun _ _ e=>e.elim .inl (fun e=> .inr (.inr e)))).trans k5 (fun j _ e=>e.elim .inl (fun e=> .inr (.inl e)))
   ·rintro r y ⟨rfl,h⟩;exact⟨rfl,h⟩
end Go.Proofs.YtamafdcnbcoegaaGreat
