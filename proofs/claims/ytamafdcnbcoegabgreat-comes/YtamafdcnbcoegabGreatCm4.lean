/-
  Part 4 of a proof: S2, S3, S4, S6, D8, S7A, S8A, S9A, D9.
-/
import Derived.Test.YtamafdcnbcoegabGreatCm3
set_option maxRecDepth 100000
set_option maxHeartbeats 40000000
namespace Go.Proofs.YtamafdcnbcoegabGreat
open Go.RowKit
def aI' (w:World) (v:Value) (ns:List Nat):Prop:=w.ownsRow 0 3 1 v ns.length (J' ns)
theorem kR' {ns:List Nat} {i:Nat} (h:i < ns.length):(J' ns)[i]? =some (.int .i64 (ns.getD i 0:Nat)):=by
 simp[J',h,List.getD_eq_getElem?_getD]
theorem ia' (ns:List Nat):∀u∈J' ns,u.oneCell'=true:=by
 intro u hu;obtain⟨n,_,rfl⟩:=List.mem_map.1 hu;rfl
theorem bR' (w:World):aI' w (.slice none 0 0) []:=World.ownsRow_nil _ _ _ _
theorem aI'.keep {w w':World} {v:Value} {ns:List Nat} (h:aI' w v ns) (r:∀g,v.ownBlock=some g->w'.heap[g]? =w.heap[g]?):aI' w' v ns:=R' h r
theorem aI'.cases {w:World} {v:Value} {ns:List Nat} (h:aI' w v ns):(v= .slice none 0 0/\ns=[])\/
  ∃g cap r,v= .slice (some ⟨g,0,none⟩) ns.length cap/\w.heap[g]? =some (.cells r 3 (0,0))/\ns.length<=cap/\cap<=maxLen/\r.size=cap/\r.toList.take ns.length=J' ns:=by
 obtain⟨h1,h2⟩:=h;rcases h2 with ⟨h2,h3⟩|⟨g,cap,r,rfl,_,z,D,F,hs,G⟩
 ·exact .inl ⟨h2,List.eq_nil_of_length_eq_zero h3⟩
 ·exact .inr ⟨g,cap,r,rfl,z,D,F,by simpa using hs,by simpa using G⟩
theorem aI'.cell' {w:World} {g n cap k:Nat} {ns:List Nat} (h:aI' w (.slice (some ⟨g,0,none⟩) n cap) ns) (z:k < ns.length):w.cell? ⟨g,k,none⟩=some (.int .i64 (ns.getD k 0:Nat)):=by
 have h0:=h;rcases h.cases with ⟨e,_⟩|⟨g',G,H,e,I,J,M,hs,O⟩
 ·cases e
 ·injection e with r D F;injection r with r;injection r with r;subst r D F;rw[World.ownsRow.cellAt h0 k (by omega),kR' z]
theorem go' {w:World} {ns:List Nat} {g cap:Nat} {r:Array Value} (z:w.heap[g]? =some (.cells r 3 (0,0))) (D:ns.length<=cap) (F:cap<=maxLen) (hs:r.size=cap) (G:r.toList.take ns.length=J' ns):
  aI' w (.slice (some ⟨g,0,none⟩) ns.length cap) ns:=
 ⟨by simp[J'], .inr ⟨g,cap,r,rfl,Nat.zero_le _,z,D,F,by simpa using hs,by simpa using G⟩⟩
theorem cX' {w:World} {ns:List Nat} {g n cap:Nat} {r:Array Value} (z:w.heap[g]? =some (.cells r 3 (0,0))) (D:ns.length=n) (hl:n<=cap) (F:cap<=maxLen) (hs:r.size=cap) {rest:List Value} (G:r.toList=J' ns++rest):
  aI' w (.slice (some ⟨g,0,none⟩) n cap) ns:=by
 subst D;exact go' z hl F hs (by rw[G,List.take_append_of_le_length (by simp[J']),List.take_of_length_le (by simp[J'])])
theorem fa' (n:Nat):(Builtin.zeroCells (Value.int .i64 0).cells n).size=n:=by
 rw[size_zeroCells];show n * 1=n;omega
theorem bS' {b:Nat} {e:TypeId} {fr:Nat×Nat}:∀ (vs:List Value) (o:Nat) (w:World) (r:Array Value),w.heap[b]? =some (.cells r e fr)->o+vs.length<=r.size->
  ∃c,(w.setCells b o vs).heap[b]? =some (.cells c e fr)/\c.size=r.size/\c.toList=r.toList.take o++vs++r.toList.drop (o+vs.length)
 |[],o,w,r,h,_=>⟨r,h,rfl,by simp⟩
 |v::z,o,w,r,h,hl=>by
  have D:o < r.size:=by simp at hl;omega
  obtain⟨c,h1,h2,h3⟩:=bS' z (o+1) (w.setCell ⟨b,o,none⟩ v) _ (ah' h) (by simp at hl ⊢;omega);refine⟨c,h1,by rw[h2];simp,?_⟩;rw[h3,Array.toList_setIfInBounds];have F:(r.toList.set o v).take (o+1)=r.toList.take o++[v]:=by rw[List.take_add_one,List.take_set_of_le (Nat.le_refl _)];simp[D]
  have G:(r.toList.set o v).drop (o+1+z.length)=r.toList.drop (o+(v::z).length):=by rw[List.drop_set_of_lt (by omega)];congr 1;simp;omega
  rw[F,G];simp
theorem bT' (b:Nat):∀ (vs:List Value) (o:Nat) (w:World),Far (fun k=>k=b) w (w.setCells b o vs)
 |[],_,w=>Far.refl _ w
 |v::r,o,w=>(S' w b o v).trans (bT' b r (o+1) _) (fun _ _ h=>h)
theorem ao' (E:Nat->Prop) (w:World) (n:Nat):Far E w (w.drewN n):=⟨rfl,rfl,rfl,Nat.le_refl _,fun _ _ _=>rfl⟩
theorem pp' (ns:List Nat) (x:Nat):((ns.map Int.ofNat).countP (· < (x:Int)))=ns.countP (· < x):=by
 rw[List.countP_map];apply List.countP_congr;intro a _;simp
theorem mu' (ns:List Nat) (x:Nat):((ns.map Int.ofNat).contains (x:Int))=ns.contains x:=by
 induction ns with
 |nil=>rfl
 |cons a r ih=>simp only[List.map_cons,List.contains_cons,ih];congr 1;rw[Bool.eq_iff_iff];simp only[beq_iff_eq];exact Int.ofNat_inj
theorem cC' {w:World} {v:Value} {ns:List Nat} (h:aI' w v ns) (hs:ns.Pairwise (· < ·)) (hl:ns.length<=1000000) (x:Nat):
  Calls Tryz.prog 125 #[v, .int .i64 x] w fun e w'=>e= .returned (.tuple #[.int .i64 (ns.countP (· < x):Nat), .bool (ns.contains x)])/\∃q,w'=w.drewN q:=by
 rcases h.cases with ⟨rfl,rfl⟩|⟨g,cap,D,rfl,F,G,H,I,J⟩
 ·refine(Tryz.slices_BinarySearch_int_empty none 0 x w).mono ?_;rintro e w' ⟨rfl,rfl⟩;exact⟨rfl,0,rfl⟩
 ·have z:=Tryz.slices_BinarySearch_int g 0 ns.length cap (ns.map Int.ofNat) x w (by simp) (by omega) (fun j hj=>by
   have r:j < ns.length:=by simpa using hj
   rw[Nat.zero_add,World.ownsRow.cellAt h j (by omega),kR' r];simp[List.getD_eq_getElem?_getD,r]) (by
   rw[List.take_of_length_le (by simp),List.pairwise_map];exact hs.imp (fun h=>by simp;omega))
  refine z.mono ?_;rintro e w' ⟨rfl,q,rfl⟩;rw[List.take_of_length_le (by simp),pp',mu'];exact⟨rfl,q,rfl⟩
theorem kS' {ns:List Nat} (i:Nat):(J' ns).drop i=J' (ns.drop i):=by simp[J']
theorem kT' {ns:List Nat} (i:Nat):(J' ns).take i=J' (ns.take i):=by simp[J']
theorem dP' (ns:List Nat):(J' ns).length=ns.length:=by simp[J']
theorem ib' (base:Option Addr) (n c q:Nat) (r:List Value) (x:Value) (w:World) (z:n<=c) (D:c < n+1) (F:(n+1) * 8<=140737488355328) (G:r.length=n) (H:base=none->n=0)
  (I:∀a,base=some a->∀j v,r[j]? =some v->w.cell? (a.add j)=some v) (J:∀j v,[x][j]? =some v->w.cell? ⟨q,0+j,none⟩=some v) (M:∀v∈ [x],v.oneCell'=true):
  Calls Tryz.prog 126 #[.slice base n c, .int .i64 n, .slice (some ⟨q,0,none⟩) 1 1] w fun e w'=>e= .returned (.slice (some ⟨w.heap.size,0,none⟩) (n+1) (grownCap w (n+1) c 3))/\
   w'=w.drew.alloc (.cells ((r++[x]).toArray++Builtin.zeroCells (Value.int .i64 0).cells (grownCap w (n+1) c 3 - (n+1))) 3):=
 Any2.slices_Insert_int_end_grow Tryz.laysNm221 base n c q 0 1 1 r [x] w (by omega) z D F G rfl H I J M
theorem uN' (b n c i q:Nat) (r:List Value) (x:Value) (w:World) (hi:i < n) (z:n<=c) (D:c < n+1) (F:(n+1) * 8<=140737488355328) (G:r.length=n)
  (H:∀j v,r[j]? =some v->w.cell? ⟨b,0+j,none⟩=some v) (I:∀j v,[x][j]? =some v->w.cell? ⟨q,0+j,none⟩=some v) (J:∀v∈r,v.oneCell'=true) (M:∀v∈ [x],v.oneCell'=true):
  Calls Tryz.prog 126 #[.slice (some ⟨b,0,none⟩) n c, .int .i64 i, .slice (some ⟨q,0,none⟩) 1 1] w fun e w'=>e= .returned (.slice (some ⟨w.heap.size,0,none⟩) (n+1) (grownCap w (n+1) c 3))/\
   w'=(((w.alloc (.cells ((r.take i).toArray++Builtin.zeroCells (Value.int .i64 0).cells (n+1 - i)++Builtin.zeroCells (Value.int .i64 0).cells (grownCap w (n+1) c 3 - (n+1))) 3)).drew.setCells w.heap.size i [x]).drew).setCells w.heap.size (i+1) (r.drop i):=
 Any2.slices_Insert_int_grow Tryz.laysNm221 b 0 n c i q 0 1 1 r [x] w hi (by omega) z D F G rfl H I J M
theorem fb' {w:World} {v:Value} {ns:List Nat} (h:aI' w v ns) (hl:ns.length<=1000000) (k x q:Nat) (aE:k<=ns.length) {t:TypeId} (V:w.heap[q]? =some (.cells #[.int .i64 x] t (0,0))) (aF:v.ownBlock≠some q):
  Calls Tryz.prog 126 #[v, .int .i64 k, .slice (some ⟨q,0,none⟩) 1 1] w fun e w'=>∃X,e= .returned X/\aI' w' X (ns.take k++x::ns.drop k)/\
   Far (fun b=>v.ownBlock=some b) w w'/\Loc w v X:=by
 have G:∀j u,[Value.int .i64 x][j]? =some u->w.cell? ⟨q,0+j,none⟩=some u:=by intro j u hj;rw[t' V,Nat.zero_add];simpa using hj
 have H:∀u∈ [Value.int .i64 x],u.oneCell'=true:=by simp[Value.oneCell']
 have I:(ns.take k++x::ns.drop k).length=ns.length+1:=by simp;omega
 have Y:J' (ns.take k++x::ns.drop k)=J' (ns.take k)++[.int .i64 x]++J' (ns.drop k):=by simp[J']
 have Z:∀ (a:Nat),grownCap w (ns.length+1) a 3<=maxLen:=fun a=>grownCap_le_maxLen w _ _ _ (by unfold maxLen;omega);have aa:∀ (a:Nat),ns.length+1<=grownCap w (ns.length+1) a 3:=fun a=>grownCap_ge w _ _ _;rcases h.cases with ⟨rfl,rfl⟩|⟨g,cap,r,rfl,J,ap,ab,D,aq⟩
 ·obtain rfl:k=0:=by simpa using aE
  refine(ib' none 0 0 q [] (.int .i64 x) w (by omega) (by omega) (by omega) rfl (fun _=>rfl) (fun a ac=>by cases ac) G H).mono ?_;rintro e w' ⟨rfl,rfl⟩;refine⟨_,rfl,?_,?_, .inr (.inr ⟨_,rfl,Nat.le_refl _⟩)⟩
  ·have F:=aa 0;refine cX' (heap_alloc_new w.drew _) I F (Z 0) ?_ (rest:=(Builtin.zeroCells (Value.int .i64 0).cells (grownCap w (0+1) 0 3 - (0+1))).toList) ?_
   ·rw[Array.size_append,fa'];simp only[List.nil_append,List.size_toArray,List.length_cons,List.length_nil]at F ⊢;omega
   ·rw[Array.toList_append];rfl
  ·exact(ao' _ w 1).trans (C' ((Below.refl _ _).alloc (Nat.le_refl _) _)) (fun _ _ h=>h)
 ·have aG:q≠g:=fun e=>aF (by rw[e];rfl);have ad:∀j u,(J' ns)[j]? =some u->w.cell? ⟨g,0+j,none⟩=some u:=by
   intro j u hj;have aS:j < ns.length:=by have:=(List.getElem?_eq_some_iff.1 hj).1;rwa [dP']at this
   rw[Nat.zero_add,World.ownsRow.cellAt h j (by omega)];exact hj
  have au:∀j,w.frozen? ⟨g,j,none⟩=false:=fun j=>by simp[World.frozen?,J]
  have av:∀j,w.frozen? ⟨q,j,none⟩=false:=fun j=>by simp[World.frozen?,V]
  have ax:∀j,j < cap->(w.cell? ⟨g,j,none⟩).isSome=true:=fun j hj=>by rw[t' J];simp[D,hj]
  have ay:cap<=9223372036854775807:=by unfold maxLen at ab;omega
  have aH:(J' (ns.take k)).length=k:=by rw[dP',List.length_take];omega
  have ah:((J' ns).drop k).length=ns.length - k:=by simp[J']
  by_cases az:k=ns.length
  ·have aA:J' (ns.take k++x::ns.drop k)=J' ns++[.int .i64 x]:=by rw[Y,az];simp[J']
   have aI:(k:Int)=(ns.length:Int):=by rw[az]
   rw[aI];by_cases M:ns.length+1<=cap
   ·refine(Any2.slices_Insert_int_end_room Tryz.laysNm221 g 0 ns.length cap q 0 1 1 [.int .i64 x] w (by omega) M ay rfl (fun j hj=>by rw[Nat.zero_add];exact ax _ (by omega)) (fun j _=>au _) G H).mono ?_;rintro e w' ⟨rfl,rfl⟩;obtain⟨c,O,z,Q⟩:=bS' [Value.int .i64 x] (0+ns.length) w r J (by simp;omega);refine⟨_,rfl,?_,(bT' g _ _ w).mono (fun b _ U=>by rw[U];rfl), .inr (.inl rfl)⟩;exact cX' O I M ab (by rw[z,D]) (by rw[Q,aA,Nat.zero_add,aq])
   ·refine(ib' (some ⟨g,0,none⟩) ns.length cap q (J' ns) (.int .i64 x) w ap (by omega) (by omega) (dP' _) (fun h=>by cases h) (fun a ac j u hj=>by cases ac;rw[Addr.add_lit];exact ad j u hj) G H).mono ?_;rintro e w' ⟨rfl,rfl⟩;refine⟨_,rfl,?_,?_, .inr (.inr ⟨_,rfl,Nat.le_refl _⟩)⟩
    ·have F:=aa cap;refine cX' (heap_alloc_new w.drew _) I F (Z cap) ?_ (rest:=(Builtin.zeroCells (Value.int .i64 0).cells (grownCap w (ns.length+1) cap 3 - (ns.length+1))).toList) ?_
     ·rw[Array.size_append,fa',List.size_toArray,List.length_append,dP',List.length_singleton];omega
     ·rw[aA,Array.toList_append]
    ·exact(ao' _ w 1).trans (C' ((Below.refl _ _).alloc (Nat.le_refl _) _)) (fun _ _ h=>h)
  ·have aB:k < ns.length:=by omega
   by_cases M:ns.length+1<=cap
   ·refine(Any2.slices_Insert_int_shift Tryz.laysNm221 g 0 ns.length cap k q 0 1 1 (J' ns) [.int .i64 x] w aB (by omega) M ay aG (dP' _) rfl ad (fun j hj=>by rw[Nat.zero_add];exact ax _ (by omega)) (fun j _=>au _) G (ia' ns) H
     t 3 1 cap (by simp[World.shape?,V]) (by simp[World.shape?,J,D]) (by omega) (av _) (av _)).mono ?_
    rintro e w' ⟨rfl,rfl⟩;obtain⟨c,O,z,Q⟩:=bS' ((J' ns).drop k) (0+(k+1)) w.drew r J (by rw[ah,D];omega);obtain⟨aJ,ai,aj,ak⟩:=bS' [Value.int .i64 x] (0+k) _ c O (by rw[z,D];simp;omega);refine⟨_,rfl,?_,?_, .inr (.inl rfl)⟩
    ·refine cX' ai I M ab (by rw[aj,z,D]) (rest:=r.toList.drop (ns.length+1)) ?_;rw[ak,Y,Q];have a1:(r.toList.take (0+(k+1))++(J' ns).drop k++r.toList.drop (0+(k+1)+((J' ns).drop k).length)).take (0+k)=J' (ns.take k):=by rw[List.append_assoc,List.take_append_of_le_length (by simp;omega),List.take_take,Nat.min_eq_left (by omega),Nat.zero_add,<-kT',<-aq,List.take_take,Nat.min_eq_left (by omega)]
     have a3:0+k+ [Value.int .i64 (x:Int)].length=0+(k+1):=by simp
     have a4:(r.toList.take (0+(k+1))).length=0+(k+1):=by simp;omega
     have a5:0+(k+1)+((J' ns).drop k).length=ns.length+1:=by rw[ah];omega
     rw[a1,a3,a5,List.append_assoc (r.toList.take _),List.drop_append_of_le_length (by rw[a4];omega),List.drop_of_length_le (by rw[a4];omega),List.nil_append,kS'];simp only[List.append_assoc]
    ·have ao:=(ao' (fun k=>k=g) w 1).trans (bT' g ((J' ns).drop k) (0+(k+1)) w.drew) (fun _ _ h=>h);exact(ao.trans (bT' g _ _ _) (fun _ _ h=>h)).mono (fun b _ U=>by rw[U];rfl)
   ·refine(uN' g ns.length cap k q (J' ns) (.int .i64 x) w aB ap (by omega) (by omega) (dP' _) ad G (ia' ns) H).mono ?_;rintro e w' ⟨rfl,rfl⟩;have F:=aa cap;have aK:=Z cap;have aL:Far (fun _=>False) w (w.alloc (.cells (((J' ns).take k).toArray++Builtin.zeroCells (Value.int .i64 0).cells (ns.length+1 - k)++Builtin.zeroCells (Value.int .i64 0).cells (grownCap w (ns.length+1) cap 3 - (ns.length+1))) 3)):=C' ((Below.refl _ _).alloc (Nat.le_refl _) _);have aM:=heap_alloc_new w (.cells (((J' ns).take k).toArray++Builtin.zeroCells (Value.int .i64 0).cells (ns.length+1 - k)++Builtin.zeroCells (Value.int .i64 0).cells (grownCap w (ns.length+1) cap 3 - (ns.length+1))) 3);have aN:(((J' ns).take k).toArray++Builtin.zeroCells (Value.int .i64 0).cells (ns.length+1 - k)++Builtin.zeroCells (Value.int .i64 0).cells (grownCap w (ns.length+1) cap 3 - (ns.length+1))).size=grownCap w (ns.length+1) cap 3:=by rw[Array.size_append,Array.size_append,fa',fa'];simp[dP'];omega
    have aO:∃aC,(((J' ns).take k).toArray++Builtin.zeroCells (Value.int .i64 0).cells (ns.length+1 - k)++Builtin.zeroCells (Value.int .i64 0).cells (grownCap w (ns.length+1) cap 3 - (ns.length+1))).toList=J' (ns.take k)++aC:=⟨_,by rw[Array.append_assoc,Array.toList_append,kT']⟩;obtain⟨aC,aP⟩:=aO;generalize grownCap w (ns.length+1) cap 3=aQ at *;generalize (((J' ns).take k).toArray++Builtin.zeroCells (Value.int .i64 0).cells (ns.length+1 - k)++Builtin.zeroCells (Value.int .i64 0).cells (aQ - (ns.length+1)))=arr at *;generalize aT:w.alloc (.cells arr 3)=W at *;obtain⟨c,O,z,Q⟩:=bS' [Value.int .i64 x] k W.drew arr aM (by simp;omega);obtain⟨aJ,ai,aj,ak⟩:=bS' ((J' ns).drop k) (k+1) (W.drew.setCells w.heap.size k [Value.int .i64 x]).drew c O (by rw[z,ah];omega);have aD:(J' (ns.take k)++[Value.int .i64 (x:Int)]).length=k+1:=by simp[aH]
    refine⟨_,rfl,?_,?_, .inr (.inr ⟨_,rfl,Nat.le_refl _⟩)⟩
    ·refine cX' ai I F aK (by rw[aj,z,aN]) (rest:=c.toList.drop (k+1+((J' ns).drop k).length)) ?_;rw[ak,Y,Q];have a1:arr.toList.take k=J' (ns.take k):=by rw[aP,List.take_append_of_le_length (by omega),List.take_of_length_le (by omega)]
     rw[a1,List.take_append_of_le_length (by rw[aD];omega),List.take_of_length_le (by rw[aD];omega),kS']
    ·have ao:Far (fun b=>b=w.heap.size) W (W.drew.setCells w.heap.size k [Value.int .i64 x]).drew:=(ao' _ W 1).trans ((bT' w.heap.size _ k W.drew).trans (ao' _ _ 1) (fun _ _ h=>h)) (fun _ _ h=>h);have aR:=ao.trans (bT' w.heap.size ((J' ns).drop k) (k+1) _) (fun _ _ h=>h);exact(aL.trans aR (fun b U h=>by omega)).mono (fun _ _ h=>h.elim)
theorem dQ' {w:World} {v:Value} {ns:List Nat} (h:aI' w v ns) (i j:Nat) (I:i<=j) (hj:j<=ns.length):
  Calls Tryz.prog 199 #[v, .int .i64 i, .int .i64 j] w fun e w'=>∃r,e= .returned r/\aI' w' r (ns.take i++ns.drop j)/\
   Far (fun b=>v.ownBlock=some b) w w'/\r.ownBlock=v.ownBlock:=by
 rcases h.cases with ⟨rfl,rfl⟩|⟨g,cap,z,rfl,D,J,F,G,aa⟩
 ·obtain rfl:j=0:=by simpa using hj
  obtain rfl:i=0:=by omega
  refine(Tryz.slices_Delete_int_empty none 0 w).mono ?_;rintro e w' ⟨rfl,rfl⟩;exact⟨_,rfl,bR' _,Far.refl _ _,rfl⟩
 ·refine(Tryz.slices_Delete_int_cells g 0 ns.length cap i j (ns.map Int.ofNat) w (by simp) J (by unfold maxLen at F;omega) I hj (fun k M=>?_) (fun k _=>by simp[World.frozen?,D])).mono ?_
  ·have H:k < ns.length:=by simpa using M
   rw[Nat.zero_add,World.ownsRow.cellAt h k (by omega),kR' H];simp[List.getD_eq_getElem?_getD,H]
  ·rintro e w' ⟨rfl,q,rfl⟩;have O:(((ns.map Int.ofNat).take ns.length).take i++((ns.map Int.ofNat).take ns.length).drop j++List.replicate (j - i) 0).map (Value.int .i64)=J' (ns.take i++ns.drop j)++List.replicate (j - i) (.int .i64 0):=by have Q:(ns.map Int.ofNat).take ns.length=ns.map Int.ofNat:=List.take_of_length_le (by simp);rw[Q];simp only[List.map_append,List.map_replicate,J',<-List.map_take,<-List.map_drop,List.map_map];rfl
   rw[O];have U:(J' (ns.take i++ns.drop j)++List.replicate (j - i) (Value.int .i64 0)).length=ns.length:=by simp[J'];omega
   obtain⟨c,V,X,Y⟩:=bS' (J' (ns.take i++ns.drop j)++List.replicate (j - i) (.int .i64 0)) 0 (w.drewN q) z D (by rw[U,G];omega);refine⟨_,rfl,?_,?_,rfl⟩
   ·refine cX' V (by simp;omega) (by omega) F (by rw[X,G]) (rest:=List.replicate (j - i) (.int .i64 0)++z.toList.drop (0+(J' (ns.take i++ns.drop j)++List.replicate (j - i) (Value.int .i64 0)).length)) ?_;rw[Y];simp
   ·exact((ao' (fun k=>k=g) w q).trans (bT' g _ _ _) (fun _ _ h=>h)).mono (fun b _ Z=>by rw[Z];rfl)
def ar':List (Nat×Value)->Int->Option Value
 |[],_=>none
 |x::r,k=>if k=(x.1:Int)then some x.2 else ar' r k
theorem bY' (x:Nat×Value) (r:List (Nat×Value)) (k:Int):ar' (x::r) k=if k=(x.1:Int)then some x.2 else ar' r k:=rfl
theorem dR':ar' []=fun _=>none:=by funext k;rfl
theorem dm' {l:List (Nat×Value)} {k:Int} {v:Value} (h:ar' l k=some v):∃x∈l,(x.1:Int)=k/\x.2=v:=by
 induction l with
 |nil=>cases h
 |cons x D ih=>
  unfold ar' at h;split at h
  ·rename_i r;exact⟨x, .head _,r.symm,Option.some.inj h⟩
  ·obtain⟨y,z,e⟩:=ih h;exact⟨y, .tail _ z,e⟩
theorem fD' (l:List (Nat×Value)) (n:Nat):(ar' l n).isSome=(l.map (·.1)).contains n:=by
 induction l with
 |nil=>rfl
 |cons x r ih=>
  unfold ar';rw[List.map_cons,List.contains_cons];by_cases h:n=x.1
  ·subst h;simp
  ·rw[if_neg (by omega),ih];simp[h]
def bb':List (Nat×Value)->Nat->Value->List (Nat×Value)
 |[],n,v=>[(n,v)]
 |x::r,n,v=>if n < x.1 then(n,v)::x::r else if n=x.1 then(n,v)::r else x::bb' r n v
theorem gp' (l:List (Nat×Value)) (n:Nat) (v:Value):ar' (bb' l n v)=ko' (ar' l) n v:=by
 funext k;induction l with
 |nil=>simp[bb',ar',ko']
 |cons x r ih=>
  unfold bb';by_cases h1:n < x.1
  ·rw[if_pos h1];show(if k=(n:Int)then some v else ar' (x::r) k)= _;rfl
  ·rw[if_neg h1];by_cases h2:n=x.1
   ·rw[if_pos h2];show(if k=(n:Int)then some v else ar' r k)= _;unfold ko';rw[bY'];by_cases h3:k=(n:Int)
    ·rw[if_pos h3,if_pos h3]
    ·rw[if_neg h3,if_neg h3,if_neg (by omega)]
   ·rw[if_neg h2];show(if k=(x.1:Int)then some x.2 else ar' (bb' r n v) k)= _;rw[ih];unfold ko';show _=if k=(n:Int)then some v else(if k=(x.1:Int)then some x.2 else ar' r k)
    by_cases h3:k=(x.1:Int)
    ·rw[if_pos h3,if_neg (by omega),if_pos h3]
    ·rw[if_neg h3,if_neg h3]
theorem ic' {l:List (Nat×Value)} {n:Nat} {v:Value} {x:Nat×Value} (h:x∈bb' l n v):x=(n,v)\/x∈l:=by
 induction l with
 |nil=>simp[bb']at h;exact .inl h
 |cons y r ih=>
  unfold bb' at h;split at h
  ·cases h with
   |head=>exact .inl rfl
   |tail _ h=>exact .inr h
  ·split at h
   ·cases h with
    |head=>exact .inl rfl
    |tail _ h=>exact .inr (.tail _ h)
   ·cases h with
    |head=>exact .inr (.head _)
    |tail _ h=>exact(ih h).imp id (fun h=> .tail _ h)
theorem fE' {r:List Nat} {n:Nat} (h:∀y∈r,¬y < n):r.countP (· < n)=0:=by
 rw[List.countP_eq_zero];intro y z;simpa using h y z
theorem gq' {l:List (Nat×Value)} {n:Nat} {v:Value} (hs:(l.map (·.1)).Pairwise (· < ·)):
  (bb' l n v).map (·.1)=if(l.map (·.1)).contains n then l.map (·.1)else(l.map (·.1)).take ((l.map (·.1)).countP (· < n))++n::(l.map (·.1)).drop ((l.map (·.1)).countP (· < n)):=by
 induction l with
 |nil=>simp[bb']
 |cons x z ih=>
  rw[List.map_cons,List.pairwise_cons]at hs;obtain⟨h0,hs⟩:=hs;unfold bb';rw[List.map_cons,List.contains_cons,List.countP_cons];by_cases h1:n < x.1
  ·have F:(z.map (·.1)).countP (· < n)=0:=fE' (fun y G=>by have:=h0 y G;omega);have H:(z.map (·.1)).contains n=false:=by
    cases h:(z.map (·.1)).contains n with
    |false=>rfl
    |true=>have:=h0 n (by simpa using h);omega
   have r:(n==x.1)=false:=by simp;omega
   rw[if_pos h1,F,H,r,if_neg (by simp)];have:decide (x.1 < n)=false:=by simp;omega
   simp[this]
  ·rw[if_neg h1];by_cases h2:n=x.1
   ·have r:(n==x.1)=true:=by simp[h2]
    rw[if_pos h2,r,if_pos (by simp)];simp[h2]
   ·have I:x.1 < n:=by omega
    have r:(n==x.1)=false:=by simp[h2]
    rw[if_neg h2,r,List.map_cons,ih hs];simp only[Bool.false_or];by_cases D:(z.map (·.1)).contains n=true
    ·rw[if_pos D,if_pos D]
    ·rw[if_neg D,if_neg D];simp[I]
theorem pq' {l:List (Nat×Value)} {n:Nat} {v:Value} (hs:(l.map (·.1)).Pairwise (· < ·)):((bb' l n v).map (·.1)).Pairwise (· < ·):=by
 induction l with
 |nil=>simp[bb']
 |cons x G ih=>
  have D:=hs;rw[List.map_cons,List.pairwise_cons]at hs;obtain⟨h0,hs⟩:=hs;unfold bb';by_cases h1:n < x.1
  ·rw[if_pos h1,List.map_cons,List.pairwise_cons];refine⟨fun y r=>?_,D⟩;rw[List.map_cons]at r;cases r with
   |head=>exact h1
   |tail _ r=>exact Nat.lt_trans h1 (h0 y r)
  ·rw[if_neg h1];by_cases h2:n=x.1
   ·rw[if_pos h2,List.map_cons,List.pairwise_cons];exact⟨fun y r=>by rw[h2];exact h0 y r,hs⟩
   ·rw[if_neg h2,List.map_cons,List.pairwise_cons];refine⟨fun y r=>?_,ih hs⟩;obtain⟨F,z,rfl⟩:=List.mem_map.1 r;rcases ic' z with rfl|z
    ·show x.1 < n;omega
    ·exact h0 _ (List.mem_map.2 ⟨F,z,rfl⟩)
theorem fF' (l:List (Nat×Value)) (n:Nat) (v:Value):(bb' l n v).length<=l.length+1:=by
 induction l with
 |nil=>simp[bb']
 |cons x r ih=>
  unfold bb';split
  ·simp
  ·split
   ·simp
   ·simp only[List.length_cons];omega
structure aM' (w:World) (nv mv:Value) (l:List (Nat×Value)):Prop where
 nums:aI' w nv (l.map (·.1))
 map:kn' w mv (ar' l)
 sorted:(l.map (·.1)).Pairwise (· < ·)
 len:l.length<=1000
theorem aM'.keep {w w':World} {nv mv:Value} {l:List (Nat×Value)} (h:aM' w nv mv l) (r:∀g,nv.ownBlock=some g->w'.heap[g]? =w.heap[g]?) (z:∀g,aT' mv=some g->w'.heap[g]? =w.heap[g]?):aM' w' nv mv l:=
 ⟨h.nums.keep r,h.map.keep z,h.sorted,h.len⟩
def ShU (nv mv:Value) (k:Nat):Prop:=nv.ownBlock=some k\/aT' mv=some k
theorem aM'.far {E:Nat->Prop} {w w':World} {nv mv:Value} {l:List (Nat×Value)} (h:aM' w nv mv l) (z:Far E w w') (D:∀k,ShU nv mv k->¬E k):aM' w' nv mv l:=
 h.keep (fun g r=>z.rest g (World.ownsRow.lt h.nums g r).2 (D g (.inl r))) (fun g r=>z.rest g (h.map.lt g r) (D g (.inr r)))
theorem aM'.lt {w:World} {nv mv:Value} {l:List (Nat×Value)} (h:aM' w nv mv l):∀k,ShU nv mv k->k < w.heap.size:=by
 rintro k (r|r)
 ·exact(World.ownsRow.lt h.nums k r).2
 ·exact h.map.lt k r
theorem fG' (w:World):aM' w (.slice none 0 0) (.map none) []:=⟨bR' w, .inl ⟨rfl,dR'⟩,by simp,by simp⟩
theorem aM'.ne {w:World} {nv mv:Value} {l:List (Nat×Value)} (h:aM' w nv mv l) {p:Nat} {c:Array Value} {t:TypeId} {fr:Nat×Nat} (z:w.heap[p]? =some (.cells c t fr)) (D:t≠3):¬ShU nv mv p:=by
 rintro(r|r)
 ·exact(as'.of_own h.nums).ne z (fun e=>D e.symm) r
 ·rcases h.map with ⟨rfl,_⟩|⟨b,rfl,F⟩
  ·cases r
  ·cases r;exact F.not_cells z
structure eJ' (w:World) (p o:Nat) (t:TypeId) (arr:Array Value) (nv mv:Value) (l:List (Nat×Value)):Prop where
 blk:w.heap[p]? =some (.cells arr t (0,0))
 c0:arr[o]? =some nv
 c1:arr[o+1]? =some mv
 sh:aM' w nv mv l
 ty:t≠3
structure cd' (w x:World) (p o:Nat) (t:TypeId) (arr:Array Value) (nv mv:Value) (l':List (Nat×Value)):Prop where
 out:∃nv' mv',eJ' x p o t ((arr.setIfInBounds o nv').setIfInBounds (o+1) mv') nv' mv' l'/\Loc w nv nv'/\(aT' mv'=aT' mv\/∃g,aT' mv'=some g/\w.heap.size<=g)
 far:Far (fun k=>k=p\/ShU nv mv k) w x
theorem bi' {arr:Array Value} {i:Nat} {v:Value} (h:arr[i]? =some v):arr.setIfInBounds i v=arr:=by
 apply Array.ext';rw[Array.toList_setIfInBounds];apply List.ext_getElem?;intro j;rw[List.getElem?_set];by_cases r:i=j
 ·subst r;have z:i < arr.size:=(Array.getElem?_eq_some_iff.1 h).1;rw[if_pos rfl,Array.length_toList,if_pos z];simpa using h.symm
 ·simp[r]
theorem set_comm {arr:Array Value} {i j:Nat} (u v:Value) (h:i≠j):(arr.setIfInBounds i u).setIfInBounds j v=(arr.setIfInBounds j v).setIfInBounds i u:=by
 apply Array.ext';simp only[Array.toList_setIfInBounds];exact List.set_comm _ _ h
theorem aI'.notMap {w:World} {v:Value} {ns:List Nat} {b:Nat} {f:Int->Option Value} (N:aI' w v ns) (r:aZ' w b f):v.ownBlock≠some b:=by
 intro h;rcases N.cases with ⟨rfl,_⟩|⟨g,cap,D,rfl,z,_⟩
 ·cases h
 ·cases h;exact r.not_cells z
theorem bH' {w x:World} {a b:Value} (h:Loc x a b) (hs:w.heap.size<=x.heap.size):Loc w a b:=by
 rcases h with h|h|⟨g,h,r⟩
 ·exact .inl h
 ·exact .inr (.inl h)
 ·exact .inr (.inr ⟨g,h,Nat.le_trans hs r⟩)
theorem ek' {w z W:World} {p o:Nat} {t:TypeId} {arr:Array Value} {nv nv' mv:Value} {l:List (Nat×Value)} {n r:Nat} {v:Value} (h0:o < arr.size) (h1:o+1 < arr.size) (F:z.heap[p]? =some (.cells ((arr.setIfInBounds o nv').setIfInBounds (o+1) (.map (some r))) t (0,0))) (J:t≠3)
  (N:aI' z nv' ((bb' l n v).map (·.1))) (G:aZ' z r (ar' l)) (M:Far (fun k=>k=p\/nv.ownBlock=some k) w z) (hl:Loc w nv nv') (H:aT' mv=some r\/w.heap.size<=r)
  (O:aZ' W r (ko' (ar' l) n v)) (D:Far (fun k=>k=r) z W) (hs:(l.map (·.1)).Pairwise (· < ·)) (U:l.length < 1000):cd' w W p o t arr nv mv (bb' l n v):=by
 have Q:¬p=r:=fun e=>G.not_cells (by rw[<-e];exact F);refine⟨⟨nv', .map (some r),⟨D.blk F Q,?_,?_,⟨N.keep (fun g I=>D.rest g (World.ownsRow.lt N g I).2 (fun e=>N.notMap G (by rw[I,e]))), .inr ⟨r,rfl,by rw[gp'];exact O⟩,pq' hs,by have:=fF' l n v;omega⟩,J⟩,hl,?_⟩,?_⟩
 ·rw[Array.getElem?_setIfInBounds_ne (by omega)];simp[h0]
 ·simp[h1]
 ·rcases H with h|h
  ·exact .inl h.symm
  ·exact .inr ⟨r,rfl,h⟩
 ·refine(M.mono (fun k _ h=>h.elim .inl (fun h=> .inr (.inl h)))).trans D (fun k V e=>?_);rcases H with h|h
  ·exact .inr (.inr (by rw[h,e]))
  ·omega
def xq' (B:Nat) (r:List Value) (v:Value) (w:World):Prop:=∃g,v= .slice (some ⟨g,0,none⟩) 1 1/\B<=g/\w.heap[g]? =some (.cells r.toArray 254 (0,0))
theorem pr' (B:Nat) (r:List Value):bL' (xq' B r):=fun _ _ _ h z=>by
 obtain⟨g,e,h1,h2⟩:=h;exact⟨g,e,h1,(z.block g (lt_of_block h2)).trans h2⟩
theorem id' {B:Nat} {r:List Value} {E:Nat->Prop} (z:∀k,E k->k < B):ba' E (xq' B r):=fun _ _ _ h hF=>by
 obtain⟨g,e,h1,h2⟩:=h;exact⟨g,e,h1,hF.blk h2 (fun e=>by have:=z _ e;omega)⟩
def wr' (w0:World) (r:Value) (z:List Value) (v:Value) (w:World):Prop:=as' w 254 65 v 1 z/\Loc w0 r v/\w0.heap.size<=w.heap.size
theorem jL' (w0:World) (z:Value) (D:List Value):bL' (wr' w0 z D):=fun _ _ _ h r=>
 ⟨h.1.keep (fun g F=>r.block g (h.1.lt g F)),h.2.1,Nat.le_trans h.2.2 r.size⟩
theorem ie' {w0:World} {z:Value} {D:List Value} {E:Nat->Prop} (F:∀k,E k->k < w0.heap.size/\z.ownBlock≠some k):ba' E (wr' w0 z D):=fun _ _ _ h hF=>
 ⟨h.1.far hF (fun g r e=>by
  obtain⟨h1,h2⟩:=F g e;rcases h.2.1 with h3|h3|⟨k,h3,h4⟩
  ·rw[h3]at r;cases r
  ·rw[h3]at r;exact h2 r
  ·rw[h3]at r;cases r;omega),h.2.1,Nat.le_trans h.2.2 hF.size⟩
theorem kU':(Tryz.prog.info? 254).map (fun i=>(i.zero,i.size,i.bytes))=some (some (.agg (.int .i64 0::bv aS').toArray),65,72):=by kernel_rfl
def ws' (w0:World) (p:Nat) (lv r:Value) (n:Int) (z:List Value) (w:World):Prop:=
 ∃v,w.heap[p]? =some (.cells #[lv,v, .int .i64 n, .bool false] 233 (0,0))/\wr' w0 r z v w
theorem jM' (w0:World) (p:Nat) (lv r:Value) (n:Int) (z:List Value):bL' (fun _ w=>ws' w0 p lv r n z w):=fun _ _ _ h D=>by
 obtain⟨v,h1,h2⟩:=h;exact⟨v,(D.block p (lt_of_block h1)).trans h1,jL' w0 r z _ _ _ h2 D⟩
theorem jb' {o:Oper} {a:Act} {w:World} {K:Act->World->Prop} {F:Exit->Act->World->Prop} (x y:Operand) (G:o.op= .build 254 #[(0,x),(1,y)]) (k:Int) (S:List UInt8) (H:S.length=64)
  (r:a.eval x= .int .i64 k) (z:a.eval y= .agg (bv S).toArray) (h:K (a.put o.dst (.agg (.int .i64 k::bv S).toArray)) w):o.wp Tryz.prog a w K F:=by
 have D:=pk' k S H;refine wp_build 254 #[(0,x),(1,y)] G ?_ ?_
 ·simp only[List.map_toArray,List.map_cons,List.map_nil,r,z,D];rfl
 ·simp only[List.map_toArray,List.map_cons,List.map_nil,r,z,D];exact h
theorem nZ' (w:World) (r:List Value) (z:r.length=65):(Instr.buildSlice 231 1 #[(0, .agg r.toArray)]).run Tryz.prog w= .ok (.slice (some ⟨w.heap.size,0,none⟩) 1 1) (w.alloc (.cells r.toArray 254)):=by
 obtain⟨i0,hi,F,G,I⟩:=bp' kU';have H:∀C:Array Value,C.size=65->Instr.fill (fun i=>some (i * 65,65)) C [(0, .agg r.toArray)]=some r.toArray:=by intro C D;have e:=kN' 0 r 0 C (by omega);simp only[Instr.fill,Value.cells];simp[z,D];simp at e;rw[e];simp[z,D]
 simp[Instr.buildSlice,run_underlying Tryz.underlying231,sizeOf,typeInfo,hi,G,zeroValue,F];rw[H _ (by simp)];simp[newRow]
theorem mw' {o:Oper} {a:Act} {w:World} {K:Act->World->Prop} {z:Exit->Act->World->Prop} (x:Operand) (D:o.op= .buildSlice 231 1 #[(0,x)]) (r:List Value) (F:r.length=65)
  (G:a.eval x= .agg r.toArray) (h:K (a.put o.dst (.slice (some ⟨w.heap.size,0,none⟩) 1 1)) (w.alloc (.cells r.toArray 254))):o.wp Tryz.prog a w K z:=by
 unfold Oper.wp execOp;simp only[D,List.map_toArray,List.map_cons,List.map_nil,G,Sem.run_bind,nZ' w r F,Result.andThen_ok];exact h
theorem oa' (w:World) (p:Nat) (lv r:Value) (n k:Nat) (S:List UInt8) (Z:S.length=64) (aP:n≠1) (aQ:n<=9223372036854775807)
  (H:w.heap[p]? =some (.cells #[lv,r, .int .i64 n, .bool false] 233 (0,0))) (aa:as' w 254 65 r 0 []):
  Calls Tryz.prog 169 #[.pointer (some ⟨p,0,none⟩), .int .i64 k, .agg (bv S).toArray] w fun aC w'=>
   aC= .returned (.int .i64 0)/\ws' w p lv r (n - 1:Nat) (.int .i64 k::bv S) w'/\Far (fun j=>j=p\/r.ownBlock=some j) w w':=by
 have ah:=lt_of_block H;have Q:=aa.ne H (by decide);have U:∀z,(w.alloc z).heap[p]? =some (.cells #[lv,r, .int .i64 n, .bool false] 233 (0,0)):=fun z=>(hao _ _ ah).trans H;have c3:∀z,(w.alloc z).cell? ⟨p,3,none⟩=some (.bool false):=fun z=>t' (i:=3) (U z);have c2:∀z,(w.alloc z).cell? ⟨p,2,none⟩=some (.int .i64 n):=fun z=>t' (i:=2) (U z);have aD:∀z,(w.alloc z).frozen? ⟨p,2,none⟩=false:=fun z=>I' (i:=2) (U z);have aR:((n:Int) ==1)=false:=by simp;omega
 have aS:IntKind.i64.wrap ((n:Int) - 1)=(n:Int) - 1:=by rw[IntKind.wrap_i64];omega
 have ai:=y' H;have aj:=y' aa;clear H U aa;go_enter Tryz.func169,Tryz.ntmps169;go_upto_region 7 with fail;obtain⟨I,ak⟩:∃I,I=n - 1:=⟨_,rfl⟩;refine H' (fun x=>x.heap[p]? =some (.cells #[lv,r, .int .i64 I, .bool false] 233 (0,0))/\x.heap[w.heap.size]? =some (.cells (bv S).toArray 214 (0,0))/\as' x 254 65 r 0 []/\Far (fun j=>j=p) w x/\w.heap.size < x.heap.size) ?_ ?_
 ·have aE:max 0 ((n:Int) - 1)=((I:Nat):Int):=by omega
  rw[aE];refine⟨?_,?_,?_,?_,?_⟩
  ·rw[hao _ _ (by rw[World.size_setCell];exact ah)];have:=ah' (j:=2) (v:= .int .i64 I) (i' ai);simpa using this
  ·have:=heap_alloc_new (w.setCell ⟨p,2,none⟩ (.int .i64 I)) (.cells (bv S).toArray 214);rw[World.size_setCell]at this;exact this
  ·exact(i' aj).far ((S' w p 2 (.int .i64 I)).trans (C' ((Below.refl _ _).alloc (Nat.le_refl _) _)) (fun _ _ h=>h)) (fun g D e=>Q (by rw[D,e]))
  ·exact(S' w p 2 (.int .i64 I)).trans (C' ((Below.refl _ _).alloc (Nat.le_refl _) _)) (fun _ _ h=>h)
  ·simp
 rintro x ⟨h0,h1,h2,h3,aT⟩;have aU:=lt_of_block h0;have aF:=fun g D=>h2.lt g D;have ao:(Value.int .i64 k::bv S).length=65:=by simp[ap',Z]
 obtain⟨J,V⟩:∃J,J=Value.int .i64 k::bv S:=⟨_,rfl⟩;rw[<-V]at ao;have ap:=y' V;have aG:∀u∈J,u.oneCell'=true:=by
  rw[V];intro u hu;cases hu with
  |head=>rfl
  |tail _ hu=>exact cA' S u hu
 clear V;have aq:=y' h0;have au:=y' h1;have av:=y' h2;have aH:=y' h3;clear h0 h1 h2 h3 c3 c2 aD ai aj;refine Z' (by kernel_rfl)
  [fun v _=>v= .pointer (some ⟨p,0,none⟩),fun v _=>v= .pointer (some ⟨p,0,none⟩),fun v _=>v= .pointer (some ⟨p,0,none⟩),fun v _=>v= .pointer (some ⟨p,1,none⟩),fun v _=>v=r,fun v _=>v= .int .i64 k,fun v _=>v= .agg (bv S).toArray,fun v _=>v= .agg J.toArray,xq' x.heap.size J,wr' x r J,fun v _=>v= .pointer (some ⟨p,0,none⟩),fun v _=>v= .pointer (some ⟨p,1,none⟩),fun _ w=>ws' x p lv r I J w]
  [[(0,none)],[(0,none)],[(31,some 1)],[(32,some 2)],[(33,some 3)],[(1,none)],[(5,none)],[(35,some 5),(36,some 6)],[(37,some 7)],[(34,some 4),(38,some 8)],[(30,some 0)],[(40,some 10)],[(41,some 11),(39,some 9)]] [some 30,some 31,some 32,some 33,some 34,some 35,some 36,some 37,some 38,some 39,some 40,some 41,none] [false,false,false,false,false,false,false,false,false,false,false,false,false,false,false,false,false,false,false,false,false,false,false,false,false,false,false,false,false,false,true,true,true,true,true,true,true,true,true,true,true,true]
  [(9,fun j=>r.ownBlock=some j),(12,fun j=>j=p)]
  (by kernel_rfl) (by kernel_rfl) (by kernel_rfl) (by kernel_rfl) (by kernel_rfl) ?_ ?_ ?_ ?_
 ·repeat' (first|exact O' _|exact pr' _ _|exact jL' _ _ _|exact jM' _ _ _ _ _ _|exact trivial|apply And.intro)
 ·repeat' (first|exact trivial|exact .inl rfl|exact .inr (.inr (an' _ _))|exact .inr (.inr (id' (fun g D=>aF g D)))|exact .inr (.inr (id' (fun g (D:g=p)=>by omega)))|exact .inr (.inr (ie' (fun g (D:g=p)=>⟨by omega,by rw[D];exact Q⟩)))|exact .inr (.inl (by kernel_rfl))|apply And.intro)
 ·refine⟨?_,?_,?_,?_,?_,?_,?_,?_,?_,?_,?_,?_,?_,trivial⟩;all_goals
   intro a O H M;have ab:=H.size;have X:=y' H;clear H;simp only[M',List.getD_cons_zero,List.getD_cons_succ,Array.getD_eq_getD_getElem?]at M;try simp at M
  ·go_simp;exact⟨_,rfl,Far.refl _ _,rfl⟩
  ·go_simp;exact⟨_,rfl,Far.refl _ _,rfl⟩
  ·go_simp;exact⟨_,rfl,Far.refl _ _,rfl⟩
  ·go_simp;exact⟨_,rfl,Far.refl _ _,rfl⟩
  ·have ac:O.cell? ⟨p,1,none⟩=some r:=t' (i:=1) ((i' X).blk (i' aq) (by
    rintro⟨q,F,g1,g2,G⟩;simp at F;rcases F with rfl|rfl
    ·exact Q G
    ·exact absurd (show av' _ 12 4=false from g2) (by decide+kernel)))
   go_simp;exact⟨_,rfl,Far.refl _ _,rfl⟩
  ·go_simp;exact⟨_,rfl,Far.refl _ _,rfl⟩
  ·have ac:=(i' X).blk (i' au) (by
    rintro⟨q,F,g1,g2,G⟩;simp at F;rcases F with rfl|rfl
    ·have:¬r.ownBlock=some w.heap.size:=fun e=>((i' av).ne (i' au) (by decide)) e;exact this G
    ·have G:w.heap.size=p:=G;omega)
   rw[if_pos (by rfl)];refine cw' (.tmp 5) rfl w.heap.size (by simp[Act.eval,M]) 214 S Z ac ?_;exact⟨_,rfl,Far.refl _ _,rfl⟩
  ·rw[if_pos (by rfl)];refine jb' (.tmp 35) (.tmp 36) rfl k S Z (by simp[Act.eval,M]) (by simp[Act.eval,M]) ?_;exact⟨_,rfl,Far.refl _ _,by rw[i' ap];rfl⟩
  ·rw[if_pos (by rfl)];refine mw' (.tmp 37) rfl J ao (by simp[Act.eval,M]) ?_;exact⟨_,rfl,C' ((Below.refl _ _).alloc (Nat.le_refl _) _),_,rfl,ab,heap_alloc_new O _⟩
  ·have aI:=(i' av).far (i' X) (by
    rintro g D ⟨q,F,g1,g2,G⟩;simp at F;rcases F with rfl|rfl
    ·exact g1 rfl
    ·have G:g=p:=G;exact Q (by rw[D,G]))
   obtain⟨g,D,aV,aJ⟩:=M.2;refine gU' rfl (.tmp 34) (.tmp 38) 231 rfl 254 _ 65 72 Tryz.underlying231 kU' (by simp[Value.cells,ap',az']) r 0 [] aI (by simp[Act.eval,M]) ⟨g,0,none⟩ 1 1 J (by simp[Act.eval,D]) (by omega) ?_ aG (by omega) (by omega) (by omega) ?_
   ·intro j u hj;rw[cO',t' aJ,List.getElem?_toArray,Nat.zero_add];exact hj
   ·intro aK w' g1 g2;exact⟨aK,rfl,aj' (.head _) (br' g2.grown),g1,hS' ab g2,Nat.le_trans ab g2.grown.size⟩
  ·go_simp;exact⟨_,rfl,Far.refl _ _,rfl⟩
  ·go_simp;exact⟨_,rfl,Far.refl _ _,rfl⟩
  ·have Y:=(i' X).blk (i' aq) (by
    rintro⟨q,F,g1,g2,G⟩;simp at F;rcases F with rfl|rfl
    ·exact Q G
    ·exact g1 rfl)
   have aW:O.frozen? ⟨p,1,none⟩=false:=I' (i:=1) Y;have ac:O.cell? ⟨p,1,none⟩=some r:=t' (i:=1) Y;obtain⟨aX,ad⟩:=M;obtain⟨ax,cap,aL,_⟩:=ad.1.shape;have aM:=y' Y;have ay:=y' ad;clear ad Y;rw[aL]at ay;go_simp;refine⟨aj' (.tail _ (.head _)) (S' O p 1 _), .slice ax 1 cap,?_,?_⟩
   ·have:=ah' (j:=1) (v:= .slice ax 1 cap) (i' aM);rw[<-ak];simpa using this
   ·have az:=i' ay;have aY:=az.2.2;refine ie' (E:=fun j=>j=p) (fun g (D:g=p)=>⟨by omega,by rw[D];exact Q⟩) _ _ _ az (S' O p 1 _)
 ·intro f O hF aA;have aB:=aA.2.2.2.2.2.2.2.2.2.2.2.2.1;have aN:=y' aB;have aO:=y' hF;clear aB aA hF;simp only[Y'];generalize f 30=aZ;generalize f 31=ba;generalize f 32=bb;generalize f 33=bc;generalize f 34=be;generalize f 35=bf;generalize f 36=bg;generalize f 37=bh;generalize f 38=bi;generalize f 39=bj;generalize f 40=bk;generalize f 41=bl;go_simp;go_wp2;go_ret;refine⟨rfl,?_,?_⟩
  ·rw[<-ak,<-i' ap];obtain⟨v,g1,g2,G,bm⟩:=i' aN;exact⟨v,g1,g2,bH' G (by omega),by omega⟩
  ·refine((i' aH).mono (fun j _ h=> .inl h)).trans (i' aO) (fun j _ h=>?_);obtain⟨q,F,h⟩:=h;simp at F;rcases F with rfl|rfl
   ·exact .inr h
   ·exact .inl h
def ce' (b:ByteArray) (r:Nat):Value:= .agg #[.string b, .int .i64 r]
def wZ':Value:= .agg #[.string ⟨#[]⟩, .int .i64 0]
theorem rx' (w:World):(zeroValue 140).run Tryz.prog w= .ok wZ' w:=Tryz.zeroValue140 w
def ob' (l:List (Nat×Value)):Prop:=∀x∈l,∃b r,x.2=ce' b r
theorem tJ' {l:List (Nat×Value)} (h:ob' l) (k:Int):(∃b r,ar' l k=some (ce' b r))\/ar' l k=none:=by
 cases z:ar' l k with
 |none=>exact .inr rfl
 |some v=>obtain⟨x,D,_,rfl⟩:=dm' z;obtain⟨b,r,e⟩:=h x D;exact .inl ⟨b,r,by rw[e]⟩
theorem uO' {w:World} {p o:Nat} {arr:Array Value} {t:TypeId} {nv mv:Value} {l:List (Nat×Value)} (r:w.heap[p]? =some (.cells arr t (0,0))) (h1:arr[o+1]? =some mv) (S:aM' w nv mv l) (A:ob' l) (n:Int):
  Calls Tryz.prog 115 #[.pointer (some ⟨p,o,none⟩), .int .i64 n] w fun e w'=>e= .returned (.bool (ar' l n).isSome)/\Below w.heap.size w w':=by
 have c1:w.cell? ⟨p,o+1,none⟩=some mv:=(t' r).trans h1;have z:=(bm' (P:=Tryz.prog) (w:=w) (t:=102) Tryz.underlying102 Tryz.underlying3 (rx' w) S.map n).1;clear S r h1;rcases tJ' A n with ⟨b,D,h⟩|h;all_goals
  rw[h]at z ⊢;simp only[Option.getD_some,Option.getD_none,Option.isSome_some,Option.isSome_none,ce',wZ']at z ⊢;clear h A;go_enter Tryz.func115,Tryz.ntmps115;go_wp2;go_ret;refine⟨rfl,?_⟩;exact(Below.refl _ _).alloc (Nat.le_refl _) _
theorem ps' {w:World} {p o:Nat} {t:TypeId} {arr:Array Value} {nv mv:Value} {l:List (Nat×Value)} (S:eJ' w p o t arr nv mv l) (hl:l.length < 1000) (n:Nat) (b:ByteArray) (D:Nat):
  Calls Tryz.prog 81 #[.pointer (some ⟨p,o,none⟩), .int .i64 n,ce' b D] w fun e w'=>e= .returned (.tuple #[])/\cd' w w' p o t arr nv mv (bb' l n (ce' b D)):=by
 obtain⟨V,h0,h1,S,X⟩:=S;obtain⟨aE,ac⟩:∃m,m=mv:=⟨_,rfl⟩;rw[<-ac];have ac:=y' ac;have c0:w.cell? ⟨p,o,none⟩=some nv:=(t' V).trans h0;have c1:w.cell? ⟨p,o+1,none⟩=some mv:=(t' V).trans h1;unfold ce';have aF:=lt_of_block V;go_enter Tryz.func81,Tryz.ntmps81;go_upto_region 1 with fail;refine H' (fun x=>x.heap[p]? =some (.cells arr t (0,0))/\x.heap[w.heap.size]? =some (.cells #[.string b, .int .i64 D] 140 (0,0))/\aM' x nv mv l/\Far (fun _=>False) w x/\w.heap.size < x.heap.size) ?_ ?_
 ·have I:Far (fun _=>False) w (w.alloc (.cells #[.string b, .int .i64 D] 140)):=C' ((Below.refl _ _).alloc (Nat.le_refl _) _);exact⟨I.blk V id,heap_alloc_new w _,S.far I (fun _ _ h=>h),I,by simp⟩
 clear c0 c1 S;rintro x ⟨z,G,S,I,Q⟩;have c0:x.cell? ⟨p,o,none⟩=some nv:=(t' z).trans h0;have c1:x.cell? ⟨p,o+1,none⟩=some mv:=(t' z).trans h1;have aG:x.frozen? ⟨p,o+1,none⟩=false:=by simp[World.frozen?,z]
 have aH:= @run_makeMap Tryz.prog;have aI:∀y:World,(binOp .eql 102 (.map none) (.map none)).run Tryz.prog y= .ok (.bool true) y:=fun y=>by kernel_rfl
 have aJ:∀ (y:World) (m:Nat),(binOp .eql 102 (.map (some m)) (.map none)).run Tryz.prog y= .ok (.bool false) y:=fun y m=>by kernel_rfl
 have ad:(x.alloc (.map #[] 0)).heap[p]? =some (.cells arr t (0,0)):=(Below.heap_alloc x _ p (lt_of_block z)).trans z;have aK:(x.alloc (.map #[] 0)).cell? ⟨p,o+1,none⟩=some mv:=(t' ad).trans h1;have aL:(x.alloc (.map #[] 0)).frozen? ⟨p,o+1,none⟩=false:=by simp[World.frozen?,ad]
 rcases S.map with ⟨rfl,ah⟩|⟨U,rfl,ah⟩;all_goals
  go_upto_region 3 with fail
  refine H' (fun y=>∃U,y.heap[p]? =some (.cells (arr.setIfInBounds (o+1) (.map (some U))) t (0,0))/\y.heap[w.heap.size]? =some (.cells #[.string b, .int .i64 D] 140 (0,0))/\aI' y nv (l.map (·.1))/\aZ' y U (ar' l)/\
   Far (fun k=>k=p) w y/\w.heap.size < y.heap.size/\(aT' aE=some U\/w.heap.size<=U)) ?_ ?_
 ·refine⟨x.heap.size,ah' ad,(aa' (by omega)).trans ((Below.heap_alloc x _ _ Q).trans G),?_,?_,?_,?_, .inr (Nat.le_of_lt Q)⟩
  ·exact S.nums.keep (fun g J=>(aa' (fun e=>S.ne z X (.inl (by rw[<-e];exact J)))).trans (Below.heap_alloc x _ g (World.ownsRow.lt S.nums g J).2))
  ·rw[ah];exact(gn' x).keep (aa' (by have:=lt_of_block z;omega))
  ·exact((I.mono (fun _ _ h=>h.elim)).trans (C' ((Below.refl _ x).alloc (Nat.le_refl _) _)) (fun _ _ h=>h)).trans (S' _ p (o+1) _) (fun _ _ h=>h)
  ·simp;omega
 rotate_left
 ·refine⟨U,by rw[bi' h1];exact z,G,S.nums,ah,I.mono (fun _ _ h=>h.elim),Q, .inl (by rw[i' ac];rfl)⟩
 all_goals
  have hs:=y' S.sorted;clear c0 c1 ad aK aL aG G S ah z Q aH aI aJ I aF;rintro y ⟨F,z,G,N,H,aA,Q,aB⟩;have aC:o < arr.size:=(Array.getElem?_eq_some_iff.1 h0).1;have Y:o+1 < arr.size:=(Array.getElem?_eq_some_iff.1 h1).1;have a0:(arr.setIfInBounds (o+1) (.map (some F)))[o]? =some nv:=by rw[Array.getElem?_setIfInBounds_ne (by omega)];exact h0
  have a1:(arr.setIfInBounds (o+1) (.map (some F)))[o+1]? =some (.map (some F)):=by simp[Y]
  have c0:y.cell? ⟨p,o,none⟩=some nv:=(t' z).trans a0;have M:=gq' (v:=ce' b D) (n:=n) (i' hs);have O:=cC' N (i' hs) (by simp;omega) n;have ao:(l.map (·.1)).countP (· < n)<=(l.map (·.1)).length:=List.countP_le_length;have aM:(l.map (·.1)).length < 1000:=by simpa using hl
  generalize (l.map (·.1)).countP (· < n)=k at M O ao;generalize (l.map (·.1)).contains n=c at M O;generalize l.map (·.1)=ns at M O ao N aM;replace M:=y' M;replace O:=y' O;cases c
  ·go_upto_region 4 with (go_at_call 125;refine(i' O).mono ?_;rintro e aN ⟨rfl,q,rfl⟩)
   go_upto_region 6 with fail
   refine(fb' (w:=(y.drewN q).alloc (.cells #[.int .i64 n] 3)) (ns:=ns) (N.keep (fun g J=>Below.heap_alloc (y.drewN q) _ g (World.ownsRow.lt N g J).2)) (by omega) k n y.heap.size ao (heap_alloc_new (y.drewN q) _) (fun e=>by have:=(World.ownsRow.lt N _ e).2;omega)).mono ?_;rintro e r ⟨nv',rfl,ai,aj,aO⟩;have ak:=aj.blk ((Below.heap_alloc (y.drewN q) _ p (lt_of_block z)).trans z) (fun e=>(as'.of_own N).ne z (fun e=>X e.symm) e);have aP:=aj.blk ((Below.heap_alloc (y.drewN q) _ _ Q).trans G) (fun e=>(as'.of_own N).ne G (by decide) e);have aV:=(t' ak).trans a0;have aW:r.frozen? ⟨p,o,none⟩=false:=by simp[World.frozen?,ak]
   obtain⟨aQ,Z⟩:∃x,x=ns.take k++n::ns.drop k:=⟨_,rfl⟩;rw[<-Z]at ai;obtain⟨g',aR,rfl⟩:=gk' ai (by rw[Z];simp only[List.length_append,List.length_cons];omega);replace Z:=y' Z;go_upto_region 6 with fail;refine H' (fun r=>∃nv',r.heap[p]? =some (.cells ((arr.setIfInBounds o nv').setIfInBounds (o+1) (.map (some F))) t (0,0))/\r.heap[w.heap.size]? =some (.cells #[.string b, .int .i64 D] 140 (0,0))/\aI' r nv' ((bb' l n (ce' b D)).map (·.1))/\aZ' r F (ar' l)/\
    Far (fun k=>k=p\/nv.ownBlock=some k) w r/\Loc w nv nv') ?_ ?_
   ·have aS:nv.ownBlock≠some F:=N.notMap H;have aT:∀g,(Value.slice (some ⟨g',0,none⟩) aQ.length aR).ownBlock=some g->g≠p:=fun g J e=>(as'.of_own ai).ne ak (fun e=>X e.symm) (by rw[J,e]);have aa:=i' M;simp only[Bool.false_eq_true,if_false]at aa;have aD:Far (fun _=>False) y ((y.drewN q).alloc (.cells #[.int .i64 n] 3)):=(ao' (fun _=>False) y q).trans (C' ((Below.refl _ _).alloc (Nat.le_refl _) _)) (fun _ _ h=>h);have aU:Far (fun b=>b=p\/nv.ownBlock=some b) w r:=(aA.mono (fun _ _ h=> .inl h)).trans ((aD.mono (fun _ _ h=>h.elim)).trans aj (fun _ _ h=>h)) (fun _ _ h=> .inr h);refine⟨_,?_,(aa' (by have:=lt_of_block V;omega)).trans aP,?_,?_,aU.trans (S' r p o _) (fun _ _ h=> .inl h),bH' aO (by simp;omega)⟩
    ·rw[set_comm _ _ (show o≠o+1 by omega)];exact ah' ak
    ·rw[aa,<-i' Z];exact ai.keep (fun g J=>aa' (aT g J))
    ·exact H.keep ((aa' (fun e=>H.not_cells (by rw[e];exact z))).trans ((aj.rest _ (by have:=H.lt;simp;omega) aS).trans (aD.rest _ H.lt id)))
   ·skip
    rintro r ⟨nv',z,G,ap,H,I,aq⟩;obtain⟨ab,au,av⟩:=bG' (P:=Tryz.prog) (w:=r) (t:=102) Tryz.underlying102 Tryz.underlying3 H n (ce' b D);have ax:=au r.drew rfl;unfold ce' at ax;have c1:r.cell? ⟨p,o+1,none⟩=some (.map (some F)):=(t' z).trans (by simp[Y]);have ay:=t' (i:=0) G;have az:=t' (i:=1) G;simp at ay az;go_region;refine bodyPost_end (results_none rfl _ _ _) rfl ⟨rfl,?_⟩;exact ek' (v:=ce' b D) (W:={r.drew with heap:=r.drew.heap.setIfInBounds F ab}) aC Y z X ap H I aq aB av ((ao' _ r 1).trans (be' F ab) (fun _ _ h=>h)) (i' hs) hl
  ·go_upto_region 4 with (go_at_call 125;refine(i' O).mono ?_;rintro e aN ⟨rfl,q,rfl⟩)
   go_upto_region 6 with fail
   refine H' (fun r=>∃nv',r.heap[p]? =some (.cells ((arr.setIfInBounds o nv').setIfInBounds (o+1) (.map (some F))) t (0,0))/\r.heap[w.heap.size]? =some (.cells #[.string b, .int .i64 D] 140 (0,0))/\aI' r nv' ((bb' l n (ce' b D)).map (·.1))/\aZ' r F (ar' l)/\
    Far (fun k=>k=p\/nv.ownBlock=some k) w r/\Loc w nv nv') ?_ ?_
   ·have aa:=i' M;simp only[if_true]at aa;refine⟨nv,?_,G,by rw[aa];exact N,H,(aA.mono (fun _ _ h=> .inl h)).trans (ao' _ y q) (fun _ _ h=>h), .inr (.inl rfl)⟩;rw[bi' h0];exact z
   ·skip
    rintro r ⟨nv',z,G,ap,H,I,aq⟩;obtain⟨ab,au,av⟩:=bG' (P:=Tryz.prog) (w:=r) (t:=102) Tryz.underlying102 Tryz.underlying3 H n (ce' b D);have ax:=au r.drew rfl;unfold ce' at ax;have c1:r.cell? ⟨p,o+1,none⟩=some (.map (some F)):=(t' z).trans (by simp[Y]);have ay:=t' (i:=0) G;have az:=t' (i:=1) G;simp at ay az;go_region;refine bodyPost_end (results_none rfl _ _ _) rfl ⟨rfl,?_⟩;exact ek' (v:=ce' b D) (W:={r.drew with heap:=r.drew.heap.setIfInBounds F ab}) aC Y z X ap H I aq aB av ((ao' _ r 1).trans (be' F ab) (fun _ _ h=>h)) (i' hs) hl
theorem pt' {w:World} {p o:Nat} {arr:Array Value} {t:TypeId} {nv mv:Value} {l:List (Nat×Value)} (r:w.heap[p]? =some (.cells arr t (0,0))) (h0:arr[o]? =some nv) (S:aM' w nv mv l):
  Calls Tryz.prog 110 #[.pointer (some ⟨p,o,none⟩)] w fun e w'=>e= .returned (.int .i64 l.length)/\w'=w:=by
 have c0:w.cell? ⟨p,o,none⟩=some nv:=(t' r).trans h0;have hl:(l.map (·.1)).length=l.length:=List.length_map _;rcases S.nums.cases with ⟨rfl,z⟩|⟨g,cap,H,rfl,D,F,I,z,G⟩
 ·obtain rfl:l=[]:=by simpa using z
  go_enter Tryz.func110,Tryz.ntmps110;go_wp2;go_ret;exact⟨rfl,rfl⟩
 ·rw[hl]at c0;clear r S h0 D F G hl;generalize l.length=n at *;go_enter Tryz.func110,Tryz.ntmps110;go_wp2;go_ret;exact⟨rfl,rfl⟩
theorem uP' {l:List (Nat×Value)} {x:Nat×Value}:(J' ((l++[x]).map (·.1)))[l.length]? =some (.int .i64 (x.1:Int)):=by
 simp[J']
theorem nf' {w:World} {p o:Nat} {arr:Array Value} {t:TypeId} {nv mv:Value} {l:List (Nat×Value)} (z:w.heap[p]? =some (.cells arr t (0,0))) (h0:arr[o]? =some nv) (S:aM' w nv mv l):
  Calls Tryz.prog 122 #[.pointer (some ⟨p,o,none⟩)] w fun e w'=>e= .returned (.tuple #[.int .i64 (match l.getLast? with|none=>0|some x=>x.1:Nat), .bool l.getLast?.isSome])/\∃n,w'=w.drewN n:=by
 have c0:w.cell? ⟨p,o,none⟩=some nv:=(t' z).trans h0;have hl:(l.map (·.1)).length=l.length:=List.length_map _;rcases List.eq_nil_or_concat l with rfl|⟨r,x,D⟩
 ·obtain⟨Q,cap,e,_⟩:=(as'.of_own S.nums).shape;subst e;simp only[List.map_nil,List.length_nil]at c0;clear z S h0 hl;go_enter Tryz.func122,Tryz.ntmps122;go_wp2;go_ret2;exact⟨rfl,0,rfl⟩
 ·obtain rfl:l=r++[x]:=by rw[D,List.concat_eq_append]
  clear D;rcases S.nums.cases with ⟨rfl,F⟩|⟨g,cap,U,rfl,I,J,V,F,M⟩
  ·simp at F
  ·have G:((r++[x]).map (·.1)).length=r.length+1:=by simp
   have X:w.cell? ⟨g,r.length,none⟩=some (.int .i64 (x.1:Int)):=by rw[World.ownsRow.cellAt S.nums r.length (by simp)];exact uP'
   have O:=S.len;simp only[List.length_append,List.length_singleton]at O;rw[G]at c0;have H:(r++[x]).getLast?=some x:=by simp
   rw[H];clear z S h0 I J M hl G H;generalize r.length=n at *;have Y:IntKind.i64.wrap ((n:Int)+1 - 1)=n:=by rw[IntKind.wrap_i64];omega
   go_enter Tryz.func122,Tryz.ntmps122;go_wp2;go_quiet (fail);go_wp2;go_ret2;exact⟨rfl,_,rfl⟩
def bs' (l:List (Nat×Value)) (n:Nat):Nat:=l.countP (·.1<=n)
theorem wt' {ns:List Nat} {n:Nat} (hs:ns.Pairwise (· < ·)):ns.countP (· < n)+(if ns.contains n then 1 else 0)=ns.countP (· <=n):=by
 induction ns with
 |nil=>rfl
 |cons x r ih=>
  rw[List.pairwise_cons]at hs;obtain⟨h0,hs⟩:=hs;have ih:=ih hs;rw[List.countP_cons,List.countP_cons,List.contains_cons];by_cases h1:x=n
  ·subst h1;have z:r.contains x=false:=by
    cases h:r.contains x with
    |false=>rfl
    |true=>have:=h0 x (by simpa using h);omega
   rw[z]at ih;simp only[Bool.false_eq_true,if_false,Nat.add_zero]at ih;simp[ih]
  ·have D:(n==x)=false:=by simp;omega
   rw[D,Bool.false_or];generalize (if r.contains n=true then 1 else 0)=F at *;by_cases h2:x < n
   ·have h3:x<=n:=by omega
    simp only[h2,h3,decide_true,if_true];omega
   ·have h3:¬x<=n:=by omega
    simp only[h2,h3,decide_false,Bool.false_eq_true,if_false];omega
theorem uQ' {l:List (Nat×Value)} {n:Nat} (hs:(l.map (·.1)).Pairwise (· < ·)):(l.map (·.1)).countP (· < n)+(if(l.map (·.1)).contains n then 1 else 0)=bs' l n:=by
 rw[wt' hs,List.countP_map];rfl
theorem uR' (l:List (Nat×Value)) (n:Nat):bs' l n<=l.length:=List.countP_le_length
theorem tK' {l:List (Nat×Value)} {n:Nat} (hs:(l.map (·.1)).Pairwise (· < ·)):(∀x∈l.take (bs' l n),x.1<=n)/\∀x∈l.drop (bs' l n),n < x.1:=by
 induction l with
 |nil=>simp[bs']
 |cons x z ih=>
  rw[List.map_cons,List.pairwise_cons]at hs;obtain⟨h0,hs⟩:=hs;obtain⟨F,i2⟩:=ih hs;by_cases h:x.1<=n
  ·have D:bs' (x::z) n=bs' z n+1:=by simp[bs',h]
   rw[D,List.take_succ_cons,List.drop_succ_cons];refine⟨fun y r=>?_,i2⟩;cases r with
   |head=>exact h
   |tail _ r=>exact F y r
  ·have D:bs' (x::z) n=0:=by
    unfold bs';rw[List.countP_eq_zero];intro y r;cases r with
    |head=>simpa using h
    |tail _ r=>have:=h0 y.1 (List.mem_map.2 ⟨y,r,rfl⟩);simp;omega
   rw[D];refine⟨by simp,fun y r=>?_⟩;cases r with
   |head=>omega
   |tail _ r=>have:=h0 y.1 (List.mem_map.2 ⟨y,r,rfl⟩);omega
theorem kV' {x:Nat×Value} {r:List (Nat×Value)} (h:∀y∈r,x.1 < y.1):mt' (ar' (x::r)) x.1=ar' r:=by
 funext k;unfold mt';by_cases z:k=(x.1:Int)
 ·rw[if_pos z];cases D:ar' r k with
  |none=>rfl
  |some v=>obtain⟨y,F,e,_⟩:=dm' D;have:=h y F;omega
 ·rw[if_neg z,bY',if_neg z]
theorem Far.behind {E:Nat->Prop} {w x y:World} (h:Far E w x) (r:Below w.heap.size x y):Far E w y:=
 ⟨r.os.trans h.os,r.tape.trans h.tape,r.output.trans h.output,Nat.le_trans h.size r.size,fun k z D=>(r.block k z).trans (h.rest k z D)⟩
theorem dg' {w w':World} {B size:Nat} {e:TypeId} {v:Value} {n:Nat} {xs:List Value} (h:w.ownsRow B e size v n xs) (r:∀g,v.ownBlock=some g->w'.heap[g]? =w.heap[g]?):w'.ownsRow B e size v n xs:=by
 obtain⟨h1,h2⟩:=h;refine⟨h1,?_⟩;rcases h2 with h2|⟨g,cap,z,rfl,D,F,G⟩
 ·exact .inl h2
 ·exact .inr ⟨g,cap,z,rfl,D,by rw[r g rfl];exact F,G⟩
def fH':Value->List Value
 | .agg a=>a.toList
 |v=>[v]
def eK' (l:List (Nat×Value)):List Value:=l.flatMap fun x=>fH' x.2
theorem ng' (l:List (Nat×Value)) (x:Nat×Value):eK' (l++[x])=eK' l++fH' x.2:=by simp[eK']
structure dS' (w x:World) (p o:Nat) (t:TypeId) (arr:Array Value) (nv mv:Value) (l':List (Nat×Value)):Prop where
 out:∃nv',eJ' x p o t (arr.setIfInBounds o nv') nv' mv l'/\nv'.ownBlock=nv.ownBlock
 far:Far (fun k=>k=p\/ShU nv mv k) w x
theorem dS'.step {w x:World} {p o:Nat} {t:TypeId} {arr:Array Value} {nv mv:Value} {r:List (Nat×Value)} (h:dS' w x p o t arr nv mv r) (h1:arr[o+1]? =some mv):cd' w x p o t arr nv mv r:=by
 obtain⟨nv',S,e⟩:=h.out;have z:(arr.setIfInBounds o nv').setIfInBounds (o+1) mv=arr.setIfInBounds o nv':=bi' (by rw[Array.getElem?_setIfInBounds_ne (by omega)];exact h1);exact⟨⟨nv',mv,by rw[z];exact S, .inr (.inl e), .inl rfl⟩,h.far⟩
theorem xr':(Tryz.prog.info? 140).map (fun i=>(i.zero,i.size,i.bytes))=some (some (.agg #[.string ⟨#[]⟩, .int .i64 0]),2,24):=by kernel_rfl
theorem mx' {w:World} {p o:Nat} {t:TypeId} {arr:Array Value} {nv mv:Value} {l:List (Nat×Value)} (S:eJ' w p o t arr nv mv l) (A:ob' l) (n:Nat):
  Calls Tryz.prog 166 #[.pointer (some ⟨p,o,none⟩), .int .i64 n] w fun e w'=>∃v,e= .returned v/\
   w'.ownsRow w.heap.size 140 2 v (bs' l n) (eK' (l.take (bs' l n)))/\dS' w w' p o t arr nv mv (l.drop (bs' l n)):=by
 obtain⟨Z,h0,h1,S,ao⟩:=S;have aK:o < arr.size:=(Array.getElem?_eq_some_iff.1 h0).1;have bF:o+1 < arr.size:=(Array.getElem?_eq_some_iff.1 h1).1;have c0:w.cell? ⟨p,o,none⟩=some nv:=(t' Z).trans h0;have bG:=S.len;have aa:=cC' S.nums S.sorted (by simp;omega) n;have hcut:=uQ' (n:=n) S.sorted;have aL:=uR' l n;have aM:(l.map (·.1)).countP (· < n)<=l.length:=by have:=List.countP_le_length (p:=(· < n)) (l:=l.map (·.1));simpa using this
 obtain⟨i0,hi,bc,be,bf⟩:=bp' xr';generalize bs' l n=U at *;generalize (l.map (·.1)).countP (· < n)=k0 at *;generalize (l.map (·.1)).contains n=c at *;have D:(l.map (·.1)).length=l.length:=List.length_map _;have ab:=y' S;have bH:=y' D;replace aa:=y' aa;rcases S.nums.cases with ⟨ap,aN⟩|⟨g,cap,bI,ap,aO,bg,aP,bJ,bh⟩
 ·subst ap;obtain rfl:l=[]:=by simpa using aN
  obtain rfl:U=0:=by simpa using aL
  obtain rfl:k0=0:=by simpa using aM
  have aP:c=false:=by cases c <;> simp_all
  subst aP;have J:=fun y:World=>dQ' (bR' y) 0 0 (by omega) (by simp);simp only[show((0:Nat):Int)=0 from rfl,List.take_nil,List.drop_nil,List.nil_append]at J;have bi:=fun y=>y' (J y);clear S D J hcut aM aL aN;simp only[show((0:Nat):Int)=0 from rfl]at aa;go_enter Tryz.func166,Tryz.ntmps166;go_upto_region 5 with (go_at_call 125;refine(i' aa).mono ?_;rintro e y ⟨rfl,q,rfl⟩);go_wp2;go_loopw[5,9,29] (fun v5 _ i wr=>v5= .slice none 0 0/\i= .int .i64 0/\wr=w.drewN q) (fun _ _ i _=>0)
  case atStart=>exact⟨rfl,rfl,rfl⟩
  case round=>
   obtain⟨rfl,rfl,rfl⟩:=hrel;go_upto_region 12 with fail;refine(i' (bi _)).mono ?_;rintro e z ⟨nv',rfl,M,G,V⟩;obtain rfl:nv'= .slice none 0 0:=by
    rcases M.cases with ⟨h,_⟩|⟨g',aQ,bK,rfl,_⟩
    ·exact h
    ·cases V
   have ad:Far (fun _=>False) w z:=(ao' (fun _=>False) w q).trans (G.mono (fun _ _ h=>by cases h)) (fun _ _ h=>h);have X:=ad.blk Z id;have bj:=(t' X).trans h0;have bk:z.frozen? ⟨p,o,none⟩=false:=by simp[World.frozen?,X]
   replace M:=y' M;replace ad:=y' ad;clear G V;go_wp2;go_ret;have aq:=i' ab;have bL:z.setCell ⟨p,o,none⟩ (.slice none 0 0)=z.setCell ⟨p,o,none⟩ (.slice none 0 0):=rfl;refine⟨_,rfl,World.ownsRow_nil _ _ _ _,⟨_,⟨ah' X,by simp[aK],by rw[Array.getElem?_setIfInBounds_ne (by omega)];exact h1,⟨bR' _,(aq.far (i' ad) (fun _ _ h=>h)).map.keep (fun b H=>aa' (fun e=>?_)),by simp,by simp⟩,ao⟩,rfl⟩,((i' ad).mono (fun _ _ h=>h.elim)).trans (S' z p o _) (fun _ _ h=> .inl h)⟩;exact aq.ne Z ao (.inr (by rw[H,e]))
 ·rw[D]at ap bg;subst ap;have bM:=y' S.nums;cases c;all_goals
   simp only[if_true,if_false,Bool.false_eq_true,Nat.add_zero]at hcut;clear S bh D;try (rw[hcut]at aa)
   have bl:((k0:Int)+1=(U:Int))=((k0:Int)+1=(U:Int)):=rfl;try (have bl:(k0:Int)+1=U:=by omega)
   replace hcut:=y' hcut;go_enter Tryz.func166,Tryz.ntmps166;go_upto_region 5 with (go_at_call 125;refine(i' aa).mono ?_;rintro e y ⟨rfl,q,rfl⟩)
  all_goals
   go_wp2;go_loopw[5,9,29] (fun v5 _ i wr=>∃k:Nat,k<=U/\i= .int .i64 k/\wr.ownsRow w.heap.size 140 2 v5 k (eK' (l.take k))/\wr.heap[p]? =some (.cells arr t (0,0))/\aI' wr (.slice (some ⟨g,0,none⟩) l.length cap) (l.map (·.1))/\kn' wr mv (ar' (l.drop k))/\Far (fun b=>aT' mv=some b) w wr) (fun _ _ i _=>l.length - (intOf i).toNat)
   case atStart=>exact⟨0,by omega,rfl,World.ownsRow_nil _ _ _ _,Z,(i' ab).nums,by rw[List.drop_zero];exact(i' ab).map,ao' _ w q⟩
   case round=>
    obtain⟨k,bN,rfl,au,F,N,aB,av⟩:=hrel;by_cases bO:k < U
    ·have D:k < l.length:=by omega
     obtain⟨b,bm,ax⟩:=A l[k] (List.getElem_mem D);have ay:l.drop k=l[k]::l.drop (k+1):=List.drop_eq_getElem_cons D;have O:ar' (l.drop k) (l[k].1:Int)=some l[k].2:=by rw[ay,bY',if_pos rfl]
     have aR:=(i' ab).sorted;have aS:∀y∈l.drop (k+1),l[k].1 < y.1:=fun y bn=>by
      have h1:((l.drop k).map (·.1)).Pairwise (· < ·):=by rw[List.map_drop];exact aR.drop
      rw[ay,List.map_cons,List.pairwise_cons]at h1;exact h1.1 y.1 (List.mem_map.2 ⟨y,bn,rfl⟩)
     have aC:=kV' aS;rw[<-ay]at aC;have aD:eK' (l.take (k+1))=eK' (l.take k)++fH' l[k].2:=by rw[<-ng',List.take_add_one,List.getElem?_eq_getElem D];rfl
     have c0:=(t' F).trans h0;have c1:=(t' F).trans h1;have bP:wr.cell? ⟨g,k,none⟩=some (.int .i64 (l[k].1:Int)):=by rw[N.cell' (by simpa using D)];simp[List.getD_eq_getElem?_getD,D]
     rcases aB with ⟨rfl,ah⟩|⟨I,rfl,ah⟩
     ·rw[ah]at O;cases O
     have aT:=(bm' (P:=Tryz.prog) (w:=wr) (t:=102) Tryz.underlying102 Tryz.underlying3 (rx' wr) (.inr ⟨I,rfl,ah⟩) (l[k].1:Int)).2;rw[O,ax]at aT;rw[ax]at aD;simp only[Option.getD_some,ce']at aT;have bo:=y' aD;have bp:=y' aC;have ai:=y' au;have aj:=y' N;have ac:=y' ah;have az:=y' av;have bQ:=y' ax;clear au N ah av aD aC O ax ay aS aR;generalize aU:l[k].1=bq at *;replace aU:=y' aU;have aV:=(i' az).size;have br:I < w.heap.size:=(i' ab).map.lt I rfl;have aW:=lt_of_block Z;have bt:=fun g' (r:u5.ownBlock=some g')=>World.ownsRow.lt (i' ai) g' r;go_upto_region 9 with (at_builtin;refine wpList_append_own _ rfl (.tmp 33) (.tmp 40) 246 rfl w.heap.size 140 i0 (.agg #[.string ⟨#[]⟩, .int .i64 0]) 2 24 Tryz.underlying246 hi bc be bf rfl (by decide) u5 k (eK' (l.take k)) rfl ((i' ai).alloc _) ⟨wr.heap.size,0,none⟩ 1 1 (fH' (ce' b bm)) rfl rfl bX' (by intro u hu;simp[fH',ce']at hu;first|(rcases hu with rfl|rfl <;> rfl)|(subst hu;rfl)) (by unfold maxLen;omega) (by omega) (by simp;omega) ?_;intro bR Q ak aX _;have Y:Below w.heap.size wr Q:=((Below.refl _ wr).alloc aV _).trans (ac' (B:=w.heap.size) aX (by simp;omega) (fun g' r=>(bt g' r).1));obtain⟨aE,aY,aF⟩:=eZ' (P:=Tryz.prog) (w:=Q) (t:=102) (K':=3) Tryz.underlying102 Tryz.underlying3 ((i' ac).keep (Y.block I br)) bq;have bS:=fun ty=>aY ty Q rfl;have aG:=(Y.block p aW).trans F;have bT:=(t' aG).trans h1;replace ak:=y' ak;replace aF:=y' aF;replace Y:=y' Y;clear aX aY);go_wp2;have bu:p≠I:=fun e=>(i' ac).not_cells (by rw[<-e];exact F);have bw:=(i' aj).notMap (i' ac);have bU:=(World.ownsRow.lt (i' aj) g rfl).2;have aH:g < w.heap.size:=lt_of_block aO;have aA:=be' (w:=Q) I aE;have bz:=(i' aj).keep (w':={Q with heap:=Q.heap.setIfInBounds I aE}) (fun g' r=>by cases r;exact(aA.rest g (Nat.lt_of_lt_of_le aH (Nat.le_trans aV (i' Y).size)) (fun e=>bw (by rw[e];rfl))).trans ((i' Y).block g aH));have bA:=dg' (w':={Q with heap:=Q.heap.setIfInBounds I aE}) (i' ak) (fun g' r=>aA.rest g' (World.ownsRow.lt (i' ak) g' r).2 (fun e=>by have:=(World.ownsRow.lt (i' ak) g' r).1;omega));refine⟨⟨k+1,by omega,by go_num,by rw[i' bo];exact bA,(aA.rest p (lt_of_block aG) bu).trans aG,bz, .inr ⟨I,rfl,by rw[<-i' bp];exact i' aF⟩,
      ((i' az).behind (i' Y)).trans aA (fun _ _ h=>by rw[h];rfl)⟩,by simp[intOf];omega⟩
    ·obtain rfl:k=U:=by omega
     have ai:=y' au;have aj:=y' N;have ac:=y' aB;have az:=y' av;have bB:(l.map (·.1)).length=l.length:=List.length_map _;have aZ:g≠p:=fun e=>(as'.of_own N).ne F (fun e=>ao e.symm) (by rw[<-e];rfl);have c0:=(t' F).trans h0;have J:=dQ' N 0 k (by omega) (by omega);rw[show((0:Nat):Int)=0 from rfl,List.take_zero,List.nil_append,<-List.map_drop]at J;replace J:=y' J;clear au N aB av bB;go_upto_region 12 with fail;refine(i' J).mono ?_;rintro e z ⟨nv',rfl,M,G,V⟩;have X:=G.blk F (fun e=>aZ (by cases e;rfl));have bj:=(t' X).trans h0;have bk:z.frozen? ⟨p,o,none⟩=false:=by simp[World.frozen?,X]
     have O:(List.map (fun x=>x.1) (List.drop k l)).length=l.length - k:=by simp
     have ba:=(as'.of_own M).shape;rw[O]at ba;obtain⟨bC,aQ,rfl,_⟩:=ba;replace O:=y' O;replace M:=y' M;replace V:=y' V;replace G:=y' G;go_wp2;go_ret;have aq:=i' ab;have bD:Far (fun b=>b=p\/ShU (.slice (some ⟨g,0,none⟩) l.length cap) mv b) w z:=((i' az).mono (fun _ _ h=> .inr (.inr h))).trans (i' G) (fun _ _ h=> .inr (.inl h));have aI:∀b,b≠p->(z.setCell ⟨p,o,none⟩ (.slice bC (l.length - k) aQ)).heap[b]? =z.heap[b]? :=fun b F=>aa' F;have bb:∀b,aT' mv=some b->b≠p/\z.heap[b]? =wr.heap[b]? :=fun b H=>by
      rcases i' ac with ⟨h,_⟩|⟨bV,h,aJ⟩
      ·rw[h]at H;cases H
      ·rw[h]at H;cases H;exact⟨fun e=>aJ.not_cells (by rw[e];exact F),(i' G).rest b aJ.lt (fun e=>(i' aj).notMap aJ e)⟩
     refine⟨_,rfl,dg' (i' ai) (fun g' r=>?_),⟨_,⟨ah' X,by simp[aK],by rw[Array.getElem?_setIfInBounds_ne (by omega)];exact h1,⟨(i' M).keep (fun g' r=>aI g' ?_),(i' ac).keep (fun b H=>(aI b (bb b H).1).trans (bb b H).2),by rw[List.map_drop];exact aq.sorted.drop,by rw[List.length_drop];omega⟩,ao⟩,i' V⟩,bD.trans (S' z p o _) (fun _ _ h=> .inl h)⟩
     ·have bE:=World.ownsRow.lt (i' ai) g' r;have aW:=lt_of_block Z;have aH:=lt_of_block aO;exact(aI g' (by omega)).trans ((i' G).rest g' bE.2 (fun e=>by have bW:g=g':=Option.some.inj e;omega))
     ·rw[i' V]at r;cases r;exact aZ
theorem dT' {P:Program} (w:World) (a:Addr) (ty:TypeId) (r:List Value) (D:∀j v,r[j]? =some v->w.cell? (a.add j)=some v)
  (F:(isAgg ty).run P w= .ok true w) (hi:(P.info? ty).map (·.size)=some r.length):
  (loadVar ty a).run P w= .ok (.agg r.toArray) w:=by
 have hl:(loadCells a r.length).run P w= .ok r.toArray w:=run_loadCells_list (P:=P) w a r D;cases z:P.info? ty with
 |none=>simp[z]at hi
 |some i=>
  have hs:i.size=r.length:=by simpa[z]using hi
  simp[loadVar,Sem.run_bind,F,sizeOf,typeInfo,z,hs,hl]
theorem jN' (w:World):(isAgg 254).run Tryz.prog w= .ok true w:=by
 simp[isAgg,run_underlying Tryz.underlying254]
theorem gW':(Tryz.prog.info? 254).map (·.size)=some 65:=by kernel_rfl
theorem if' {D:Array Oper} {rest:List Oper} {o:Oper} {a:Act} {w:World} {F:Exit->Act->World->Prop} (G:o.guard=none) (x:Operand) (H:o.op= .load 254 x)
  (z:Addr) (I:a.eval x= .pointer (some z)) (r:List Value) (J:r.length=65) (M:∀j v,r[j]? =some v->w.cell? (z.add j)=some v)
  (h:wpList Tryz.prog D F rest (a.put o.dst (.agg r.toArray)) w):wpList Tryz.prog D F (o::rest) a w:=by
 refine wpList_plain G fun K hK=>?_;unfold Oper.wp execOp;simp only[H,I,Instr.loadAt,Instr.sureAddr,Sem.run_bind,Sem.run_pure,Result.andThen_ok,dT' w z 254 r M (jN' w) (by rw[gW',J])];exact hK _ _ h
theorem kp' {o:Oper} {a:Act} {w:World} {K:Act->World->Prop} {D:Exit->Act->World->Prop} (x:Operand) (F:o.op= .load 254 x)
  (z:Addr) (G:a.eval x= .pointer (some z)) (r:List Value) (H:r.length=65) (I:∀j v,r[j]? =some v->w.cell? (z.add j)=some v)
  (h:K (a.put o.dst (.agg r.toArray)) w):o.wp Tryz.prog a w K D:=by
 unfold Oper.wp execOp;simp only[F,G,Instr.loadAt,Instr.sureAddr,Sem.run_bind,Sem.run_pure,Result.andThen_ok,dT' w z 254 r I (jN' w) (by rw[gW',H])];exact h
theorem nh' (w:World) (p:Nat) (lv z:Value) (n:Int) (r:w.heap[p]? =some (.cells #[lv,z, .int .i64 n, .bool true] 233 (0,0))):
  Calls Tryz.prog 170 #[.pointer (some ⟨p,0,none⟩)] w fun D w'=>D= .returned (.tuple #[])/\w'=w:=by
 have c3:w.cell? ⟨p,3,none⟩=some (.bool true):=t' (i:=3) r;clear r;go_enter Tryz.func170,Tryz.ntmps170;go_wp2;exact bodyPost_ret (results_none rfl _ _ _) rfl ⟨rfl,rfl⟩
structure ry' (w x:World) (p:Nat) (lv:Value) (g o cap:Nat) (n:Int) (cs:List Value) (L:List UInt8):Prop where
 blk:x.heap[p]? =some (.cells #[lv, .slice (some ⟨g,o,none⟩) 1 cap, .int .i64 n, .bool false] 233 (0,0))
 un:as' x 254 65 (.slice (some ⟨g,o,none⟩) 1 cap) 1 cs
 row:x.ownsRow 0 5 1 lv L.length (bv L)
 far:Far (fun j=>lv.ownBlock=some j) w x
theorem uS' (w:World) (p:Nat) (lv Y:Value) (n:Int) (k:Nat) (S L:List UInt8) (aj:S.length=64) (Z:64 * k+64<=L.length) (aE:L.length<=10000)
  (D:w.heap[p]? =some (.cells #[lv,Y, .int .i64 n, .bool false] 233 (0,0))) (hu:as' w 254 65 Y 1 (.int .i64 k::bv S)) (ak:w.ownsRow 0 5 1 lv L.length (bv L)):
  Calls Tryz.prog 170 #[.pointer (some ⟨p,0,none⟩)] w fun ao w'=>ao= .returned (.tuple #[])/\
   ∃aa,w'.heap[p]? =some (.cells #[lv,aa, .int .i64 n, .bool false] 233 (0,0))/\aa.ownBlock=Y.ownBlock/\as' w' 254 65 aa 0 []/\
    w'.ownsRow 0 5 1 lv (Mod.setSec L k S).length (bv (Mod.setSec L k S))/\Far (fun j=>j=p\/lv.ownBlock=some j) w w':=by
 obtain⟨z,J⟩:∃z,z=Value.int .i64 k::bv S:=⟨_,rfl⟩;rw[<-J]at hu;have M:z.length=65:=by rw[J];simp[ap',aj]
 have aF:∀u∈z,u.oneCell'=true:=by
  rw[J];intro u hu;cases hu with
  |head=>rfl
  |tail _ hu=>exact cA' S u hu
 have aG:=y' J;clear J;obtain⟨aV,cap,rfl,aW,aH,Q⟩:=hu.shape;obtain⟨g,o,rfl,U⟩:=Q (by omega);have aX:=lt_of_block D;have ap:ry' w w p lv g o cap n z L:=⟨D,hu,ak,Far.refl _ _⟩;have c3:w.cell? ⟨p,3,none⟩=some (.bool false):=t' (i:=3) D;have c1:w.cell? ⟨p,1,none⟩=some (.slice (some ⟨g,o,none⟩) 1 cap):=t' (i:=1) D;have aq:=y' ap;clear D hu ak ap U Q;go_enter Tryz.func170,Tryz.ntmps170;go_upto_region 2 with fail;go_wp2;go_loopw[3,13] (fun _ i wr=>∃j:Nat,j<=1/\i= .int .i64 j/\ry' w wr p lv g o cap n z (if j=0 then L else Mod.setSec L k S)) (fun _ i _=>1 - (intOf i).toNat)
 case atStart=>exact⟨0,by omega,rfl,i' aq⟩
 case round=>
  obtain⟨j,hj,rfl,r⟩:=hrel;clear aq c1 c3;rcases(show j=0\/j=1 by omega)with rfl|rfl
  ·have r:ry' w wr p lv g o cap n z L:=r;have c0:wr.cell? ⟨p,0,none⟩=some lv:=t' (i:=0) r.blk;have U:∀j v,z[j]? =some v->wr.cell? ((⟨g,o,none⟩:Addr).add j)=some v:=by
    obtain⟨aY,aI,e,_,_,Q⟩:=r.un.shape;obtain⟨g',aJ,aK,aL⟩:=Q (by omega);cases e;cases aK;intro j v hj;have aZ:j < 65:=by rw[<-M];exact(List.getElem?_eq_some_iff.1 hj).1
    rw[cO',aL j (by omega)];exact hj
   have ba:=lt_of_block r.blk;have I:=y' r;have au:=y' U;clear r U;go_upto_region 4 with (first
    |(refine if' rfl (.tmp 15) rfl ⟨g,o,none⟩ rfl z M (i' au) ?_)
    |(refine wpList_store_row rfl 254 (.tmp 3) (.tmp 16) rfl wr.heap.size z.toArray rfl rfl 254 _ (heap_alloc_new _ _) (by rw[gW'];simp[M]) (by simp[M]) (by rw[Array.all_eq_true_iff_forall_mem];intro v aM;exact aF v (by simpa using aM)) ?_;go_simp))
   refine H' (fun x=>x.heap[wr.heap.size]? =some (.cells z.toArray 254 (0,0))/\ry' w x p lv g o cap n z L) ?_ ?_
   ·have hF:Far (fun _=>False) wr ((wr.alloc (.cells Tryz.zeroCells254 254)).setRow wr.heap.size z.toArray):=
     ⟨rfl,rfl,rfl,by simp,fun k Z _=>(setRow_other _ _ k _ (by omega)).trans (hao _ _ Z)⟩
    refine⟨setRow_heap _ _ _ _ _ _ (heap_alloc_new _ _),hF.blk (i' I).blk (fun h=>h),(i' I).un.far hF (fun _ _ h=>h),ay' (i' I).row (fun g O=>hF.rest g (World.ownsRow.lt (i' I).row g O).2 (fun h=>h)),(i' I).far.trans hF (fun _ _ h=>h.elim)⟩
   rintro x ⟨ab,G⟩;have av:x.cell? ⟨p,0,none⟩=some lv:=t' (i:=0) G.blk;have aN:=lt_of_block G.blk;have aO:=lt_of_block ab;have ax:=y' ab;have ay:=y' G;have ac:=fun y aP=>y' (tI' y k S L lv aj Z aE aP);rw[<-i' aG]at ac;clear ab G I au c0;refine ag' (by kernel_rfl)
    [fun v _=>v= .agg z.toArray,fun v _=>v= .pointer (some ⟨p,0,none⟩),fun v _=>v= .pointer (some ⟨p,0,none⟩),fun v _=>v= .pointer (some ⟨p,0,none⟩),fun v _=>v=lv,fun _ _=>True]
    [[(3,none)],[(0,none)],[(18,some 1)],[(19,some 2)],[(20,some 3)],[(17,some 0),(21,some 4)]] [some 17,some 18,some 19,some 20,some 21,some 22] [false,false,false,false,false,false,false,false,false,false,false,false,false,false,false,false,false,true,true,true,true,true,true,false,false,false,false,false,false,false,false,false]
    5 _ rfl rfl (by kernel_rfl) (by kernel_rfl) (by kernel_rfl) (by kernel_rfl) (by kernel_rfl) (by kernel_rfl) ?_ ?_ ?_
   ·repeat' (first|exact O' _|exact X'|exact trivial|apply And.intro)
   ·refine⟨?_,?_,?_,?_,?_,trivial⟩;all_goals
     intro a y D ad;have bb:=(D.cell (p:=⟨p,0,none⟩) (by show p < _;omega)).trans av;have az:=(D.block _ aO).trans (i' ax);clear D;simp only[M',List.getD_cons_zero,List.getD_cons_succ,Array.getD_eq_getD_getElem?]at ad;try simp at ad
    ·rw[if_pos (by rfl)];refine kp' (.tmp 3) rfl ⟨wr.heap.size,0,none⟩ (by simp[Act.eval,ad]) z M ?_ ⟨_,rfl,Below.refl _ _,rfl⟩;intro j v hj;rw[cO',t' az,List.getElem?_toArray,Nat.zero_add];exact hj
    all_goals
     clear az;go_simp;try exact⟨_,rfl,Below.refl _ _,rfl⟩
     try exact Below.refl _ _
   ·intro f y D V;simp only[af',List.take]at V;have aA:=V.1;have aB:=V.2.2.2.2.1;simp only[Y',aA,aB];have r:ry' w y p lv g o cap n z L:=by have G:=i' ay;exact⟨(D.block _ aN).trans G.blk,G.un.keep (fun g O=>D.block g (G.un.lt g O)),ay' G.row (fun g O=>D.block g (World.ownsRow.lt G.row g O).2),G.far.trans (C' (E:=fun _=>False) D) (fun _ _ h=>h.elim)⟩
    have ah:=y' r;clear D V aA aB r ay ax av;go_simp;refine(i' (ac y (i' ah).row)).mono ?_;rintro ao aQ ⟨rfl,aC,X⟩;have r:=i' ah;have aD:∀h,lv.ownBlock=some h->h≠p:=fun h H e=>(as'.of_own r.row).ne r.blk (by decide) (by rw[H,e]);have F:ry' w aQ p lv g o cap n z (Mod.setSec L k S):=
     ⟨X.blk r.blk (fun e=>aD _ e rfl),r.un.far X (fun h H e=>(as'.of_own r.row).ty r.un (by decide) e H),aC,r.far.trans X (fun _ _ h=>h)⟩
    have aR:=y' F;clear r F aC X ah ac aD;go_wp2;exact⟨⟨1,by omega,by go_num,i' aR⟩,by simp[intOf]⟩
  ·have r:ry' w wr p lv g o cap n z (Mod.setSec L k S):=r;have c1:wr.cell? ⟨p,1,none⟩=some (.slice (some ⟨g,o,none⟩) 1 cap):=t' (i:=1) r.blk;have bc:wr.frozen? ⟨p,1,none⟩=false:=I' (i:=1) r.blk;have I:=y' r;clear r;go_wp2;refine bodyPost_end (results_none rfl _ _ _) rfl ⟨rfl,?_⟩;have F:=i' I;have ai:=S' wr p 1 (.slice (some ⟨g,o,none⟩) 0 cap);refine⟨.slice (some ⟨g,o,none⟩) 0 cap,?_,rfl,?_,ay' F.row (fun h H=>ai.rest h (World.ownsRow.lt F.row h H).2 (fun e=>(as'.of_own F.row).ne F.blk (by decide) (by rw[H,e]))),?_⟩
   ·have:=ah' (j:=1) (v:= .slice (some ⟨g,o,none⟩) 0 cap) F.blk;simpa using this
   ·have h0:=F.un.far ai (fun h H e=>F.un.ne F.blk (by decide) (by rw[H,e]));obtain⟨_,h2⟩:=h0;rcases h2 with ⟨h2,_⟩|⟨g',aJ,aI,aS,aT,H,be,bf,aU,bg⟩
    ·cases h2
    ·cases aT;exact⟨by simp, .inr ⟨g,o,cap,aS,rfl,H,Nat.zero_le _,aH,aU,by simp⟩⟩
   ·exact(F.far.mono (fun _ _ h=> .inr h)).trans ai (fun _ _ h=> .inl h)
end Go.Proofs.YtamafdcnbcoegabGreat
