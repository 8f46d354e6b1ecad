/-
  Part 22 of a proof: SG6.
-/
import Derived.JoinedCond
import Derived.Test.YtamafdcnbcoegaaGreatSf21
set_option maxRecDepth 100000
set_option maxHeartbeats 40000000
namespace Go.Proofs.YtamafdcnbcoegaaGreat
open Go.ChangeShapes Go.WideShapes Go.ChangeAt Go.RowKit
theorem oa' {f:Type} {d:DataW f}:∀ {l:List (DataW f)},d∈l->Rows.uptoBulk d<=Rows.uptoBulkAll l
 |[],h=>by cases h
 |x::r,h=>by
  rw[Rows.uptoBulkAll];rw[List.mem_cons]at h;rcases h with rfl|h
  ·omega
  ·have:=oa' h;omega
theorem vp' {f:Type} (d:DataW f):1<=Rows.uptoBulk d:=by
 cases d with
 |lit x=>cases x <;> simp[Rows.uptoBulk]
 | _=>simp[Rows.uptoBulk]
theorem rX' {f:Type}:∀ (l:List (DataW f)),l.length<=Rows.uptoBulkAll l
 |[]=>by simp
 |x::r=>by rw[Rows.uptoBulkAll,List.length_cons];have:=rX' r;have:=vp' x;omega
theorem qj':Tryz.prog.cellsOf 76=4:=by kernel_rfl
theorem uD' {z:Type} {enc:TypeId×Value->z} {w:World} {base:Nat} {I:Nat->Bool} {held:Bool} {J:Nat} {u:List Value} {y:DataW z×List MemPlace}
  (h:DataW.trod enc Tryz.prog w base I held J 76 u=some y) (M:Rows.uptoBulk y.1<=1048576):
  ∃ (f n kp:Int) (s:ByteArray),u=[.int .i64 f, .int .i64 n, .int .u64 kp, .string s]/\(-9223372036854775808<=f/\f<=9223372036854775807)/\(-9223372036854775808<=n/\n<=9223372036854775807)/\s.size<=1048576:=by
 obtain⟨xs,n,_,rfl,hl,O,r⟩:=DataW.trod_struct Tryz.underlying76 h;rw[qj']at hl;match u,hl,xs,O with
 |[Y,Z,aa,ab],_,[ac,ad,ah,ai],_=>have h0:=r 0 _ rfl;have h1:=r 1 _ rfl;have h2:=r 2 _ rfl;have h3:=r 3 _ rfl;simp[uA',strCells,uB']at h0 h1 h2 h3;obtain⟨f,D,_,Q⟩:=DataW.trod_int Tryz.underlying3 h0;obtain⟨U,F,_,V⟩:=DataW.trod_int Tryz.underlying3 h1;obtain⟨kp,G,_,_⟩:=DataW.trod_int Tryz.underlying27 h2;obtain⟨s,H,X,_⟩:=DataW.trod_string Tryz.underlying9 h3;simp at D F G H;subst D F G H;subst X;refine⟨f,U,kp,s,rfl,uC' Q,uC' V,?_⟩;simp only[Rows.uptoBulk,Rows.uptoBulkAll,List.map_cons]at M;have:s.data.toList.length=s.size:=Array.length_toList;omega
theorem sY' {H:Type} {enc:TypeId×Value->H} {w:World} {base:Nat} {Q:Nat->Bool} {held:Bool} {v:Value} {d:DataW H} {p:List MemPlace}
  (h:DataW.Trod enc Tryz.prog w base Q held 71 v d p) (U:∃a len cap,v= .slice a len cap) (V:Rows.uptoBulk d<=1048576):
  ∃I len cap,v= .slice I len cap/\len<=1048576/\(0 < len->∃r off,I=some ⟨r,off,none⟩/\r < w.heap.size/\∀i,i < len->vC' w r (off+i * 4)):=by
 obtain⟨a0,f,c0,rfl⟩:=U;obtain⟨aq,J⟩:=h;have X:(Value.slice a0 f c0).cells.toList=[.slice a0 f c0]:=rfl;rw[X]at J;rcases Deep.open_slice Tryz.underlying71 J with ⟨e,_⟩|⟨a,len,cap,m,n,u,Pl,e,_,hl,_,Y,hd,hi⟩
 ·injection e with e;injection e with z D F;subst z D F;exact⟨none,0,0,rfl,by omega,fun h=>absurd h (by omega)⟩
 ·injection e with e;injection e with z D F;subst z D F;injection hd with hd _;subst hd;have au:f<=m:=by rw[Y];split <;> omega
  have M:((List.range f).map u).length<=1048576/\∀x∈ (List.range f).map u,Rows.uptoBulk x<=1048576:=by simp only[Rows.uptoBulk]at V;have h1:=rX' ((List.range f).map u);refine⟨by omega,fun x Z=>?_⟩;have:=oa' Z;omega
  refine⟨some a,f,c0,rfl,by have:=M.1;simpa using this,fun h0=>?_⟩;rw[qj']at hi;obtain⟨r,off,O⟩:=a;have aa:O=none/\r < w.heap.size:=by
   obtain⟨ab,h1,h2⟩:=hi 0 (by omega);obtain⟨_,ac,G⟩:=World.cells?_some h1;have:=G 0 (by omega);rw[List.getElem?_eq_getElem (by omega)]at this;simp only[Addr.add,Nat.zero_mul,if_true]at this;unfold World.cell? at this;simp only at this;split at this
   ·rename_i ad;refine⟨?_,lt_of_block ad⟩;cases O with
    |none=>rfl
    |some _=>simp at this
   ·cases this
  obtain⟨rfl,ah⟩:=aa;refine⟨r,off,rfl,ah,fun i ai=>?_⟩;obtain⟨ab,h1,h2⟩:=hi i (by omega);obtain⟨_,ac,G⟩:=World.cells?_some h1;obtain⟨aj,ak,kp,s,rfl,ao,ap,z3⟩:=uD' h2 (M.2 _ (List.mem_map.2 ⟨i,by simpa using ai,rfl⟩));refine⟨aj,ak,kp,s,ao,ap,z3,fun j hj=>?_⟩;have:=G j hj;rw[mQ',mQ']at this;rw[this];simp
theorem qk' (os:Os) (F:os.Started) (G:Type) (enc:TypeId×Value->G) (H:Stop.Interp):
  ReturnsInHanded {} Tryz.checked os 13 .any ((Rows.OpenSpec.upto Rows.safeSpec).pre6 enc Tryz.prog Tryz.f13 Rows.safeUptoRow.domain false) (((Rows.OpenSpec.upto Rows.safeSpec).at H).post enc Tryz.prog Tryz.f13 false true false false):=by
 refine returnsInHanded_of_cond (C:=Tryz.checked) (k:=Rows.uptoSmall) rfl Tryz.own F (by kernel_rfl) Tryz.func13
  (OpenSpec.witness (enc:=enc) (C:=Tryz.checked) (x:=([.nil],[],[])) rfl false ⟨#[],#[.slice none 0 0],[]⟩ 8 (by kernel_rfl) (by kernel_rfl) (by kernel_rfl) (by kernel_rfl) (by kernel_rfl) (by kernel_rfl)) ?_
 intro W base args ds ab ac r u ad I ah;have z:∀ (j:Nat) t v,Tryz.f13.params[j]? =some t->args[j]? =some v->Value.okWide Tryz.prog W .any base t v:=r;have J:=u;obtain⟨p,q,hA0,M,rfl,ai,aj⟩:=u;have D:DataW.TrodAll enc Tryz.prog W 0 (fun _=>true) true Tryz.f13.params.toList args.toList ds p:=hA0;rw[Tryz.params13]at D z;obtain⟨v0,ak,f,ao,O,ap,aq,rfl,rfl,h0,r0⟩:=trodAll_cons D;obtain⟨rfl,rfl,rfl⟩:=trodAll_nil r0;obtain rfl:args= #[v0]:=by cases args;simp_all
 obtain⟨rfl,rfl⟩:=trodVars_none M;have k0:=h0;have Q:∀x∈O,x.block < W.heap.size:=by obtain⟨m,U⟩:=k0;exact DataW.trod_lt m _ _ _ U
 have V:Rows.uptoBulk f<=1048576:=by have h:Rows.uptoBulkAll ([f]++[])<=1048576:=of_decide_eq_true I;have:=oa' (d:=f) (l:=[f]++[]) (by simp);omega
 obtain⟨X,len,cap,rfl,Y,Z⟩:=sY' h0 (okWide_slice Tryz.underlying71 (z 0 71 v0 rfl rfl)) V;clear hA0 r;refine(uz' X len cap W Y Z).mono fun e au ⟨aa,bel⟩=>?_;subst aa;exact⟨_,rfl,_,_,_,[],_,[],J,trodAll_mk1 (shut_bool Tryz.underlying4 _),(trodAll_cons_mk (Below.trod Tryz.laidOut (by kernel_rfl) (of_decide_eq_true (by kernel_rfl)) k0 bel Q) trodAll_mk0),rfl,bel.frame _,fun h=>by cases h⟩
theorem safe_holds:Rows.SafeUptoSaid:=
 OpenClaim.holds_of_cond 13 Tryz.f13 rfl rfl rfl rfl rfl rfl rfl ⟨rfl,rfl,rfl,rfl,rfl⟩ rfl rfl rfl rfl rfl (by kernel_rfl) Tryz.func13 (by kernel_rfl)
  (of_decide_eq_true (by kernel_rfl)) (by unfold Func.isWrapper;rw[if_neg (by decide+kernel)];exact⟨rfl,rfl⟩)
  (fun os f r enc _ u=>by rw[OpenClaim.pre_of_none' rfl];exact qk' os f r enc u)
end Go.Proofs.YtamafdcnbcoegaaGreat
