/-
  Part 4 of a proof: S2, S3, S4, S6, D8, S7A, S8A, S9A, D9.
-/
import Derived.Test.YtamafdcnbcoegaaGreatSf3
set_option maxRecDepth 100000
set_option maxHeartbeats 40000000
namespace Go.Proofs.YtamafdcnbcoegaaGreat
open Go.RowKit
def aF' (w:World) (v:Value) (ns:List Nat):Prop:=w.ownsRow 0 3 1 v ns.length (H' ns)
theorem kf' {ns:List Nat} {i:Nat} (h:i < ns.length):(H' ns)[i]? =some (.int .i64 (ns.getD i 0:Nat)):=by
 simp[H',h,List.getD_eq_getElem?_getD]
theorem gW' (ns:List Nat):∀f∈H' ns,f.oneCell'=true:=by
 intro f hu;obtain⟨n,_,rfl⟩:=List.mem_map.1 hu;rfl
theorem bJ' (w:World):aF' w (.slice none 0 0) []:=World.ownsRow_nil _ _ _ _
theorem aF'.keep {w w':World} {v:Value} {ns:List Nat} (h:aF' w v ns) (f:∀g,v.ownBlock=some g->w'.heap[g]? =w.heap[g]?):aF' w' v ns:=M' h f
theorem aF'.cases {w:World} {v:Value} {ns:List Nat} (h:aF' w v ns):(v= .slice none 0 0/\ns=[])\/
  ∃g cap f,v= .slice (some ⟨g,0,none⟩) ns.length cap/\w.heap[g]? =some (.cells f 3 (0,0))/\ns.length<=cap/\cap<=maxLen/\f.size=cap/\f.toList.take ns.length=H' ns:=by
 obtain⟨h1,h2⟩:=h;rcases h2 with ⟨h2,h3⟩|⟨g,cap,f,rfl,_,r,u,z,hs,D⟩
 ·exact .inl ⟨h2,List.eq_nil_of_length_eq_zero h3⟩
 ·exact .inr ⟨g,cap,f,rfl,r,u,z,by simpa using hs,by simpa using D⟩
theorem aF'.cell' {w:World} {g n cap k:Nat} {ns:List Nat} (h:aF' w (.slice (some ⟨g,0,none⟩) n cap) ns) (r:k < ns.length):w.cell? ⟨g,k,none⟩=some (.int .i64 (ns.getD k 0:Nat)):=by
 have h0:=h;rcases h.cases with ⟨e,_⟩|⟨g',D,F,e,G,H,I,hs,J⟩
 ·cases e
 ·injection e with f u z;injection f with f;injection f with f;subst f u z;rw[World.ownsRow.cellAt h0 k (by omega),kf' r]
theorem fT' {w:World} {ns:List Nat} {g cap:Nat} {f:Array Value} (r:w.heap[g]? =some (.cells f 3 (0,0))) (u:ns.length<=cap) (z:cap<=maxLen) (hs:f.size=cap) (D:f.toList.take ns.length=H' ns):
  aF' w (.slice (some ⟨g,0,none⟩) ns.length cap) ns:=
 ⟨by simp[H'], .inr ⟨g,cap,f,rfl,Nat.zero_le _,r,u,z,by simpa using hs,by simpa using D⟩⟩
theorem cM' {w:World} {ns:List Nat} {g n cap:Nat} {f:Array Value} (r:w.heap[g]? =some (.cells f 3 (0,0))) (u:ns.length=n) (hl:n<=cap) (z:cap<=maxLen) (hs:f.size=cap) {rest:List Value} (D:f.toList=H' ns++rest):
  aF' w (.slice (some ⟨g,0,none⟩) n cap) ns:=by
 subst u;exact fT' r hl z hs (by rw[D,List.take_append_of_le_length (by simp[H']),List.take_of_length_le (by simp[H'])])
theorem eK' (n:Nat):(Builtin.zeroCells (Value.int .i64 0).cells n).size=n:=by
 rw[size_zeroCells];show n * 1=n;omega
theorem bK' {b:Nat} {e:TypeId} {fr:Nat×Nat}:∀ (vs:List Value) (o:Nat) (w:World) (f:Array Value),w.heap[b]? =some (.cells f e fr)->o+vs.length<=f.size->
  ∃c,(w.setCells b o vs).heap[b]? =some (.cells c e fr)/\c.size=f.size/\c.toList=f.toList.take o++vs++f.toList.drop (o+vs.length)
 |[],o,w,f,h,_=>⟨f,h,rfl,by simp⟩
 |v::r,o,w,f,h,hl=>by
  have u:o < f.size:=by simp at hl;omega
  obtain⟨c,h1,h2,h3⟩:=bK' r (o+1) (w.setCell ⟨b,o,none⟩ v) _ (af' h) (by simp at hl ⊢;omega);refine⟨c,h1,by rw[h2];simp,?_⟩;rw[h3,Array.toList_setIfInBounds];have z:(f.toList.set o v).take (o+1)=f.toList.take o++[v]:=by rw[List.take_add_one,List.take_set_of_le (Nat.le_refl _)];simp[u]
  have D:(f.toList.set o v).drop (o+1+r.length)=f.toList.drop (o+(v::r).length):=by rw[List.drop_set_of_lt (by omega)];congr 1;simp;omega
  rw[z,D];simp
theorem bL' (b:Nat):∀ (vs:List Value) (o:Nat) (w:World),Far (fun k=>k=b) w (w.setCells b o vs)
 |[],_,w=>Far.refl _ w
 |v::f,o,w=>(O' w b o v).trans (bL' b f (o+1) _) (fun _ _ h=>h)
theorem ag' (E:Nat->Prop) (w:World) (n:Nat):Far E w (w.drewN n):=⟨rfl,rfl,rfl,Nat.le_refl _,fun _ _ _=>rfl⟩
theorem ol' (ns:List Nat) (x:Nat):((ns.map Int.ofNat).countP (· < (x:Int)))=ns.countP (· < x):=by
 rw[List.countP_map];apply List.countP_congr;intro a _;simp
theorem lI' (ns:List Nat) (x:Nat):((ns.map Int.ofNat).contains (x:Int))=ns.contains x:=by
 induction ns with
 |nil=>rfl
 |cons a f ih=>simp only[List.map_cons,List.contains_cons,ih];congr 1;rw[Bool.eq_iff_iff];simp only[beq_iff_eq];exact Int.ofNat_inj
theorem cu' {w:World} {v:Value} {ns:List Nat} (h:aF' w v ns) (hs:ns.Pairwise (· < ·)) (hl:ns.length<=1000000) (x:Nat):
  Calls Tryz.prog 132 #[v, .int .i64 x] w fun e w'=>e= .returned (.tuple #[.int .i64 (ns.countP (· < x):Nat), .bool (ns.contains x)])/\∃q,w'=w.drewN q:=by
 rcases h.cases with ⟨rfl,rfl⟩|⟨g,cap,u,rfl,z,D,F,G,H⟩
 ·refine(Tryz.slices_BinarySearch_int_empty none 0 x w).mono ?_;rintro e w' ⟨rfl,rfl⟩;exact⟨rfl,0,rfl⟩
 ·have r:=Tryz.slices_BinarySearch_int g 0 ns.length cap (ns.map Int.ofNat) x w (by simp) (by omega) (fun j hj=>by
   have f:j < ns.length:=by simpa using hj
   rw[Nat.zero_add,World.ownsRow.cellAt h j (by omega),kf' f];simp[List.getD_eq_getElem?_getD,f]) (by
   rw[List.take_of_length_le (by simp),List.pairwise_map];exact hs.imp (fun h=>by simp;omega))
  refine r.mono ?_;rintro e w' ⟨rfl,q,rfl⟩;rw[List.take_of_length_le (by simp),ol',lI'];exact⟨rfl,q,rfl⟩
theorem kg' {ns:List Nat} (i:Nat):(H' ns).drop i=H' (ns.drop i):=by simp[H']
theorem kh' {ns:List Nat} (i:Nat):(H' ns).take i=H' (ns.take i):=by simp[H']
theorem dx' (ns:List Nat):(H' ns).length=ns.length:=by simp[H']
theorem gX' (base:Option Addr) (n c q:Nat) (f:List Value) (x:Value) (w:World) (r:n<=c) (u:c < n+1) (z:(n+1) * 8<=140737488355328) (D:f.length=n) (F:base=none->n=0)
  (G:∀a,base=some a->∀j v,f[j]? =some v->w.cell? (a.add j)=some v) (H:∀j v,[x][j]? =some v->w.cell? ⟨q,0+j,none⟩=some v) (I:∀v∈ [x],v.oneCell'=true):
  Calls Tryz.prog 133 #[.slice base n c, .int .i64 n, .slice (some ⟨q,0,none⟩) 1 1] w fun e w'=>e= .returned (.slice (some ⟨w.heap.size,0,none⟩) (n+1) (grownCap w (n+1) c 3))/\
   w'=w.drew.alloc (.cells ((f++[x]).toArray++Builtin.zeroCells (Value.int .i64 0).cells (grownCap w (n+1) c 3 - (n+1))) 3):=
 Any2.slices_Insert_int_end_grow Tryz.laysNm221 base n c q 0 1 1 f [x] w (by omega) r u z D rfl F G H I
theorem tn' (b n c i q:Nat) (f:List Value) (x:Value) (w:World) (hi:i < n) (r:n<=c) (u:c < n+1) (z:(n+1) * 8<=140737488355328) (D:f.length=n)
  (F:∀j v,f[j]? =some v->w.cell? ⟨b,0+j,none⟩=some v) (G:∀j v,[x][j]? =some v->w.cell? ⟨q,0+j,none⟩=some v) (H:∀v∈f,v.oneCell'=true) (I:∀v∈ [x],v.oneCell'=true):
  Calls Tryz.prog 133 #[.slice (some ⟨b,0,none⟩) n c, .int .i64 i, .slice (some ⟨q,0,none⟩) 1 1] w fun e w'=>e= .returned (.slice (some ⟨w.heap.size,0,none⟩) (n+1) (grownCap w (n+1) c 3))/\
   w'=(((w.alloc (.cells ((f.take i).toArray++Builtin.zeroCells (Value.int .i64 0).cells (n+1 - i)++Builtin.zeroCells (Value.int .i64 0).cells (grownCap w (n+1) c 3 - (n+1))) 3)).drew.setCells w.heap.size i [x]).drew).setCells w.heap.size (i+1) (f.drop i):=
 Any2.slices_Insert_int_grow Tryz.laysNm221 b 0 n c i q 0 1 1 f [x] w hi (by omega) r u z D rfl F G H I
theorem eL' {w:World} {v:Value} {ns:List Nat} (h:aF' w v ns) (hl:ns.length<=1000000) (k x q:Nat) (aD:k<=ns.length) {t:TypeId} (U:w.heap[q]? =some (.cells #[.int .i64 x] t (0,0))) (aE:v.ownBlock≠some q):
  Calls Tryz.prog 133 #[v, .int .i64 k, .slice (some ⟨q,0,none⟩) 1 1] w fun e w'=>∃V,e= .returned V/\aF' w' V (ns.take k++x::ns.drop k)/\
   Far (fun b=>v.ownBlock=some b) w w'/\Loc w v V:=by
 have F:∀j f,[Value.int .i64 x][j]? =some f->w.cell? ⟨q,0+j,none⟩=some f:=by intro j f hj;rw[m' U,Nat.zero_add];simpa using hj
 have G:∀f∈ [Value.int .i64 x],f.oneCell'=true:=by simp[Value.oneCell']
 have H:(ns.take k++x::ns.drop k).length=ns.length+1:=by simp;omega
 have X:H' (ns.take k++x::ns.drop k)=H' (ns.take k)++[.int .i64 x]++H' (ns.drop k):=by simp[H']
 have Y:∀ (a:Nat),grownCap w (ns.length+1) a 3<=maxLen:=fun a=>grownCap_le_maxLen w _ _ _ (by unfold maxLen;omega);have Z:∀ (a:Nat),ns.length+1<=grownCap w (ns.length+1) a 3:=fun a=>grownCap_ge w _ _ _;rcases h.cases with ⟨rfl,rfl⟩|⟨g,cap,r,rfl,I,ao,aa,z,ap⟩
 ·obtain rfl:k=0:=by simpa using aD
  refine(gX' none 0 0 q [] (.int .i64 x) w (by omega) (by omega) (by omega) rfl (fun _=>rfl) (fun a ab=>by cases ab) F G).mono ?_;rintro e w' ⟨rfl,rfl⟩;refine⟨_,rfl,?_,?_, .inr (.inr ⟨_,rfl,Nat.le_refl _⟩)⟩
  ·have D:=Z 0;refine cM' (heap_alloc_new w.drew _) H D (Y 0) ?_ (rest:=(Builtin.zeroCells (Value.int .i64 0).cells (grownCap w (0+1) 0 3 - (0+1))).toList) ?_
   ·rw[Array.size_append,eK'];simp only[List.nil_append,List.size_toArray,List.length_cons,List.length_nil]at D ⊢;omega
   ·rw[Array.toList_append];rfl
  ·exact(ag' _ w 1).trans (A' ((Below.refl _ _).alloc (Nat.le_refl _) _)) (fun _ _ h=>h)
 ·have aF:q≠g:=fun e=>aE (by rw[e];rfl);have ac:∀j f,(H' ns)[j]? =some f->w.cell? ⟨g,0+j,none⟩=some f:=by
   intro j f hj;have aR:j < ns.length:=by have:=(List.getElem?_eq_some_iff.1 hj).1;rwa [dx']at this
   rw[Nat.zero_add,World.ownsRow.cellAt h j (by omega)];exact hj
  have aq:∀j,w.frozen? ⟨g,j,none⟩=false:=fun j=>by simp[World.frozen?,I]
  have au:∀j,w.frozen? ⟨q,j,none⟩=false:=fun j=>by simp[World.frozen?,U]
  have av:∀j,j < cap->(w.cell? ⟨g,j,none⟩).isSome=true:=fun j hj=>by rw[m' I];simp[z,hj]
  have ax:cap<=9223372036854775807:=by unfold maxLen at aa;omega
  have aG:(H' (ns.take k)).length=k:=by rw[dx',List.length_take];omega
  have ad:((H' ns).drop k).length=ns.length - k:=by simp[H']
  by_cases ay:k=ns.length
  ·have az:H' (ns.take k++x::ns.drop k)=H' ns++[.int .i64 x]:=by rw[X,ay];simp[H']
   have aH:(k:Int)=(ns.length:Int):=by rw[ay]
   rw[aH];by_cases J:ns.length+1<=cap
   ·refine(Any2.slices_Insert_int_end_room Tryz.laysNm221 g 0 ns.length cap q 0 1 1 [.int .i64 x] w (by omega) J ax rfl (fun j hj=>by rw[Nat.zero_add];exact av _ (by omega)) (fun j _=>aq _) F G).mono ?_;rintro e w' ⟨rfl,rfl⟩;obtain⟨c,M,u,O⟩:=bK' [Value.int .i64 x] (0+ns.length) w r I (by simp;omega);refine⟨_,rfl,?_,(bL' g _ _ w).mono (fun b _ Q=>by rw[Q];rfl), .inr (.inl rfl)⟩;exact cM' M H J aa (by rw[u,z]) (by rw[O,az,Nat.zero_add,ap])
   ·refine(gX' (some ⟨g,0,none⟩) ns.length cap q (H' ns) (.int .i64 x) w ao (by omega) (by omega) (dx' _) (fun h=>by cases h) (fun a ab j f hj=>by cases ab;rw[Addr.add_lit];exact ac j f hj) F G).mono ?_;rintro e w' ⟨rfl,rfl⟩;refine⟨_,rfl,?_,?_, .inr (.inr ⟨_,rfl,Nat.le_refl _⟩)⟩
    ·have D:=Z cap;refine cM' (heap_alloc_new w.drew _) H D (Y cap) ?_ (rest:=(Builtin.zeroCells (Value.int .i64 0).cells (grownCap w (ns.length+1) cap 3 - (ns.length+1))).toList) ?_
     ·rw[Array.size_append,eK',List.size_toArray,List.length_append,dx',List.length_singleton];omega
     ·rw[az,Array.toList_append]
    ·exact(ag' _ w 1).trans (A' ((Below.refl _ _).alloc (Nat.le_refl _) _)) (fun _ _ h=>h)
  ·have aA:k < ns.length:=by omega
   by_cases J:ns.length+1<=cap
   ·refine(Any2.slices_Insert_int_shift Tryz.laysNm221 g 0 ns.length cap k q 0 1 1 (H' ns) [.int .i64 x] w aA (by omega) J ax aF (dx' _) rfl ac (fun j hj=>by rw[Nat.zero_add];exact av _ (by omega)) (fun j _=>aq _) F (gW' ns) G
     t 3 1 cap (by simp[World.shape?,U]) (by simp[World.shape?,I,z]) (by omega) (au _) (au _)).mono ?_
    rintro e w' ⟨rfl,rfl⟩;obtain⟨c,M,u,O⟩:=bK' ((H' ns).drop k) (0+(k+1)) w.drew r I (by rw[ad,z];omega);obtain⟨aI,ah,ai,aj⟩:=bK' [Value.int .i64 x] (0+k) _ c M (by rw[u,z];simp;omega);refine⟨_,rfl,?_,?_, .inr (.inl rfl)⟩
    ·refine cM' ah H J aa (by rw[ai,u,z]) (rest:=r.toList.drop (ns.length+1)) ?_;rw[aj,X,O];have a1:(r.toList.take (0+(k+1))++(H' ns).drop k++r.toList.drop (0+(k+1)+((H' ns).drop k).length)).take (0+k)=H' (ns.take k):=by rw[List.append_assoc,List.take_append_of_le_length (by simp;omega),List.take_take,Nat.min_eq_left (by omega),Nat.zero_add,<-kh',<-ap,List.take_take,Nat.min_eq_left (by omega)]
     have a3:0+k+ [Value.int .i64 (x:Int)].length=0+(k+1):=by simp
     have a4:(r.toList.take (0+(k+1))).length=0+(k+1):=by simp;omega
     have a5:0+(k+1)+((H' ns).drop k).length=ns.length+1:=by rw[ad];omega
     rw[a1,a3,a5,List.append_assoc (r.toList.take _),List.drop_append_of_le_length (by rw[a4];omega),List.drop_of_length_le (by rw[a4];omega),List.nil_append,kg'];simp only[List.append_assoc]
    ·have ak:=(ag' (fun k=>k=g) w 1).trans (bL' g ((H' ns).drop k) (0+(k+1)) w.drew) (fun _ _ h=>h);exact(ak.trans (bL' g _ _ _) (fun _ _ h=>h)).mono (fun b _ Q=>by rw[Q];rfl)
   ·refine(tn' g ns.length cap k q (H' ns) (.int .i64 x) w aA ao (by omega) (by omega) (dx' _) ac F (gW' ns) G).mono ?_;rintro e w' ⟨rfl,rfl⟩;have D:=Z cap;have aJ:=Y cap;have aK:Far (fun _=>False) w (w.alloc (.cells (((H' ns).take k).toArray++Builtin.zeroCells (Value.int .i64 0).cells (ns.length+1 - k)++Builtin.zeroCells (Value.int .i64 0).cells (grownCap w (ns.length+1) cap 3 - (ns.length+1))) 3)):=A' ((Below.refl _ _).alloc (Nat.le_refl _) _);have aL:=heap_alloc_new w (.cells (((H' ns).take k).toArray++Builtin.zeroCells (Value.int .i64 0).cells (ns.length+1 - k)++Builtin.zeroCells (Value.int .i64 0).cells (grownCap w (ns.length+1) cap 3 - (ns.length+1))) 3);have aM:(((H' ns).take k).toArray++Builtin.zeroCells (Value.int .i64 0).cells (ns.length+1 - k)++Builtin.zeroCells (Value.int .i64 0).cells (grownCap w (ns.length+1) cap 3 - (ns.length+1))).size=grownCap w (ns.length+1) cap 3:=by rw[Array.size_append,Array.size_append,eK',eK'];simp[dx'];omega
    have aN:∃aB,(((H' ns).take k).toArray++Builtin.zeroCells (Value.int .i64 0).cells (ns.length+1 - k)++Builtin.zeroCells (Value.int .i64 0).cells (grownCap w (ns.length+1) cap 3 - (ns.length+1))).toList=H' (ns.take k)++aB:=⟨_,by rw[Array.append_assoc,Array.toList_append,kh']⟩;obtain⟨aB,aO⟩:=aN;generalize grownCap w (ns.length+1) cap 3=aP at *;generalize (((H' ns).take k).toArray++Builtin.zeroCells (Value.int .i64 0).cells (ns.length+1 - k)++Builtin.zeroCells (Value.int .i64 0).cells (aP - (ns.length+1)))=arr at *;generalize aS:w.alloc (.cells arr 3)=W at *;obtain⟨c,M,u,O⟩:=bK' [Value.int .i64 x] k W.drew arr aL (by simp;omega);obtain⟨aI,ah,ai,aj⟩:=bK' ((H' ns).drop k) (k+1) (W.drew.setCells w.heap.size k [Value.int .i64 x]).drew c M (by rw[u,ad];omega);have aC:(H' (ns.take k)++[Value.int .i64 (x:Int)]).length=k+1:=by simp[aG]
    refine⟨_,rfl,?_,?_, .inr (.inr ⟨_,rfl,Nat.le_refl _⟩)⟩
    ·refine cM' ah H D aJ (by rw[ai,u,aM]) (rest:=c.toList.drop (k+1+((H' ns).drop k).length)) ?_;rw[aj,X,O];have a1:arr.toList.take k=H' (ns.take k):=by rw[aO,List.take_append_of_le_length (by omega),List.take_of_length_le (by omega)]
     rw[a1,List.take_append_of_le_length (by rw[aC];omega),List.take_of_length_le (by rw[aC];omega),kg']
    ·have ak:Far (fun b=>b=w.heap.size) W (W.drew.setCells w.heap.size k [Value.int .i64 x]).drew:=(ag' _ W 1).trans ((bL' w.heap.size _ k W.drew).trans (ag' _ _ 1) (fun _ _ h=>h)) (fun _ _ h=>h);have aQ:=ak.trans (bL' w.heap.size ((H' ns).drop k) (k+1) _) (fun _ _ h=>h);exact(aK.trans aQ (fun b Q h=>by omega)).mono (fun _ _ h=>h.elim)
theorem dy' {w:World} {v:Value} {ns:List Nat} (h:aF' w v ns) (i j:Nat) (G:i<=j) (hj:j<=ns.length):
  Calls Tryz.prog 221 #[v, .int .i64 i, .int .i64 j] w fun e w'=>∃f,e= .returned f/\aF' w' f (ns.take i++ns.drop j)/\
   Far (fun b=>v.ownBlock=some b) w w'/\f.ownBlock=v.ownBlock:=by
 rcases h.cases with ⟨rfl,rfl⟩|⟨g,cap,r,rfl,u,H,z,D,Y⟩
 ·obtain rfl:j=0:=by simpa using hj
  obtain rfl:i=0:=by omega
  refine(Tryz.slices_Delete_int_empty none 0 w).mono ?_;rintro e w' ⟨rfl,rfl⟩;exact⟨_,rfl,bJ' _,Far.refl _ _,rfl⟩
 ·refine(Tryz.slices_Delete_int_cells g 0 ns.length cap i j (ns.map Int.ofNat) w (by simp) H (by unfold maxLen at z;omega) G hj (fun k I=>?_) (fun k _=>by simp[World.frozen?,u])).mono ?_
  ·have F:k < ns.length:=by simpa using I
   rw[Nat.zero_add,World.ownsRow.cellAt h k (by omega),kf' F];simp[List.getD_eq_getElem?_getD,F]
  ·rintro e w' ⟨rfl,q,rfl⟩;have J:(((ns.map Int.ofNat).take ns.length).take i++((ns.map Int.ofNat).take ns.length).drop j++List.replicate (j - i) 0).map (Value.int .i64)=H' (ns.take i++ns.drop j)++List.replicate (j - i) (.int .i64 0):=by have M:(ns.map Int.ofNat).take ns.length=ns.map Int.ofNat:=List.take_of_length_le (by simp);rw[M];simp only[List.map_append,List.map_replicate,H',<-List.map_take,<-List.map_drop,List.map_map];rfl
   rw[J];have O:(H' (ns.take i++ns.drop j)++List.replicate (j - i) (Value.int .i64 0)).length=ns.length:=by simp[H'];omega
   obtain⟨c,Q,U,V⟩:=bK' (H' (ns.take i++ns.drop j)++List.replicate (j - i) (.int .i64 0)) 0 (w.drewN q) r u (by rw[O,D];omega);refine⟨_,rfl,?_,?_,rfl⟩
   ·refine cM' Q (by simp;omega) (by omega) z (by rw[U,D]) (rest:=List.replicate (j - i) (.int .i64 0)++r.toList.drop (0+(H' (ns.take i++ns.drop j)++List.replicate (j - i) (Value.int .i64 0)).length)) ?_;rw[V];simp
   ·exact((ag' (fun k=>k=g) w q).trans (bL' g _ _ _) (fun _ _ h=>h)).mono (fun b _ X=>by rw[X];rfl)
def an':List (Nat×Value)->Int->Option Value
 |[],_=>none
 |x::f,k=>if k=(x.1:Int)then some x.2 else an' f k
theorem bQ' (x:Nat×Value) (f:List (Nat×Value)) (k:Int):an' (x::f) k=if k=(x.1:Int)then some x.2 else an' f k:=rfl
theorem dz':an' []=fun _=>none:=by funext k;rfl
theorem cZ' {l:List (Nat×Value)} {k:Int} {v:Value} (h:an' l k=some v):∃x∈l,(x.1:Int)=k/\x.2=v:=by
 induction l with
 |nil=>cases h
 |cons x u ih=>
  unfold an' at h;split at h
  ·rename_i f;exact⟨x, .head _,f.symm,Option.some.inj h⟩
  ·obtain⟨y,r,e⟩:=ih h;exact⟨y, .tail _ r,e⟩
theorem fn' (l:List (Nat×Value)) (n:Nat):(an' l n).isSome=(l.map (·.1)).contains n:=by
 induction l with
 |nil=>rfl
 |cons x f ih=>
  unfold an';rw[List.map_cons,List.contains_cons];by_cases h:n=x.1
  ·subst h;simp
  ·rw[if_neg (by omega),ih];simp[h]
def aV':List (Nat×Value)->Nat->Value->List (Nat×Value)
 |[],n,v=>[(n,v)]
 |x::f,n,v=>if n < x.1 then(n,v)::x::f else if n=x.1 then(n,v)::f else x::aV' f n v
theorem fU' (l:List (Nat×Value)) (n:Nat) (v:Value):an' (aV' l n v)=jx' (an' l) n v:=by
 funext k;induction l with
 |nil=>simp[aV',an',jx']
 |cons x f ih=>
  unfold aV';by_cases h1:n < x.1
  ·rw[if_pos h1];show(if k=(n:Int)then some v else an' (x::f) k)= _;rfl
  ·rw[if_neg h1];by_cases h2:n=x.1
   ·rw[if_pos h2];show(if k=(n:Int)then some v else an' f k)= _;unfold jx';rw[bQ'];by_cases h3:k=(n:Int)
    ·rw[if_pos h3,if_pos h3]
    ·rw[if_neg h3,if_neg h3,if_neg (by omega)]
   ·rw[if_neg h2];show(if k=(x.1:Int)then some x.2 else an' (aV' f n v) k)= _;rw[ih];unfold jx';show _=if k=(n:Int)then some v else(if k=(x.1:Int)then some x.2 else an' f k)
    by_cases h3:k=(x.1:Int)
    ·rw[if_pos h3,if_neg (by omega),if_pos h3]
    ·rw[if_neg h3,if_neg h3]
theorem gY' {l:List (Nat×Value)} {n:Nat} {v:Value} {x:Nat×Value} (h:x∈aV' l n v):x=(n,v)\/x∈l:=by
 induction l with
 |nil=>simp[aV']at h;exact .inl h
 |cons y f ih=>
  unfold aV' at h;split at h
  ·cases h with
   |head=>exact .inl rfl
   |tail _ h=>exact .inr h
  ·split at h
   ·cases h with
    |head=>exact .inl rfl
    |tail _ h=>exact .inr (.tail _ h)
   ·cases h with
    |head=>exact .inr (.head _)
    |tail _ h=>exact(ih h).imp id (fun h=> .tail _ h)
theorem fo' {f:List Nat} {n:Nat} (h:∀y∈f,¬y < n):f.countP (· < n)=0:=by
 rw[List.countP_eq_zero];intro y r;simpa using h y r
theorem fV' {l:List (Nat×Value)} {n:Nat} {v:Value} (hs:(l.map (·.1)).Pairwise (· < ·)):
  (aV' l n v).map (·.1)=if(l.map (·.1)).contains n then l.map (·.1)else(l.map (·.1)).take ((l.map (·.1)).countP (· < n))++n::(l.map (·.1)).drop ((l.map (·.1)).countP (· < n)):=by
 induction l with
 |nil=>simp[aV']
 |cons x r ih=>
  rw[List.map_cons,List.pairwise_cons]at hs;obtain⟨h0,hs⟩:=hs;unfold aV';rw[List.map_cons,List.contains_cons,List.countP_cons];by_cases h1:n < x.1
  ·have z:(r.map (·.1)).countP (· < n)=0:=fo' (fun y D=>by have:=h0 y D;omega);have F:(r.map (·.1)).contains n=false:=by
    cases h:(r.map (·.1)).contains n with
    |false=>rfl
    |true=>have:=h0 n (by simpa using h);omega
   have f:(n==x.1)=false:=by simp;omega
   rw[if_pos h1,z,F,f,if_neg (by simp)];have:decide (x.1 < n)=false:=by simp;omega
   simp[this]
  ·rw[if_neg h1];by_cases h2:n=x.1
   ·have f:(n==x.1)=true:=by simp[h2]
    rw[if_pos h2,f,if_pos (by simp)];simp[h2]
   ·have G:x.1 < n:=by omega
    have f:(n==x.1)=false:=by simp[h2]
    rw[if_neg h2,f,List.map_cons,ih hs];simp only[Bool.false_or];by_cases u:(r.map (·.1)).contains n=true
    ·rw[if_pos u,if_pos u]
    ·rw[if_neg u,if_neg u];simp[G]
theorem om' {l:List (Nat×Value)} {n:Nat} {v:Value} (hs:(l.map (·.1)).Pairwise (· < ·)):((aV' l n v).map (·.1)).Pairwise (· < ·):=by
 induction l with
 |nil=>simp[aV']
 |cons x D ih=>
  have u:=hs;rw[List.map_cons,List.pairwise_cons]at hs;obtain⟨h0,hs⟩:=hs;unfold aV';by_cases h1:n < x.1
  ·rw[if_pos h1,List.map_cons,List.pairwise_cons];refine⟨fun y f=>?_,u⟩;rw[List.map_cons]at f;cases f with
   |head=>exact h1
   |tail _ f=>exact Nat.lt_trans h1 (h0 y f)
  ·rw[if_neg h1];by_cases h2:n=x.1
   ·rw[if_pos h2,List.map_cons,List.pairwise_cons];exact⟨fun y f=>by rw[h2];exact h0 y f,hs⟩
   ·rw[if_neg h2,List.map_cons,List.pairwise_cons];refine⟨fun y f=>?_,ih hs⟩;obtain⟨z,r,rfl⟩:=List.mem_map.1 f;rcases gY' r with rfl|r
    ·show x.1 < n;omega
    ·exact h0 _ (List.mem_map.2 ⟨z,r,rfl⟩)
theorem fp' (l:List (Nat×Value)) (n:Nat) (v:Value):(aV' l n v).length<=l.length+1:=by
 induction l with
 |nil=>simp[aV']
 |cons x f ih=>
  unfold aV';split
  ·simp
  ·split
   ·simp
   ·simp only[List.length_cons];omega
structure aJ' (w:World) (nv mv:Value) (l:List (Nat×Value)):Prop where
 nums:aF' w nv (l.map (·.1))
 map:jw' w mv (an' l)
 sorted:(l.map (·.1)).Pairwise (· < ·)
 len:l.length<=1000
theorem aJ'.keep {w w':World} {nv mv:Value} {l:List (Nat×Value)} (h:aJ' w nv mv l) (f:∀g,nv.ownBlock=some g->w'.heap[g]? =w.heap[g]?) (r:∀g,aQ' mv=some g->w'.heap[g]? =w.heap[g]?):aJ' w' nv mv l:=
 ⟨h.nums.keep f,h.map.keep r,h.sorted,h.len⟩
def ShU (nv mv:Value) (k:Nat):Prop:=nv.ownBlock=some k\/aQ' mv=some k
theorem aJ'.far {E:Nat->Prop} {w w':World} {nv mv:Value} {l:List (Nat×Value)} (h:aJ' w nv mv l) (r:Far E w w') (u:∀k,ShU nv mv k->¬E k):aJ' w' nv mv l:=
 h.keep (fun g f=>r.rest g (World.ownsRow.lt h.nums g f).2 (u g (.inl f))) (fun g f=>r.rest g (h.map.lt g f) (u g (.inr f)))
theorem aJ'.lt {w:World} {nv mv:Value} {l:List (Nat×Value)} (h:aJ' w nv mv l):∀k,ShU nv mv k->k < w.heap.size:=by
 rintro k (f|f)
 ·exact(World.ownsRow.lt h.nums k f).2
 ·exact h.map.lt k f
theorem fq' (w:World):aJ' w (.slice none 0 0) (.map none) []:=⟨bJ' w, .inl ⟨rfl,dz'⟩,by simp,by simp⟩
theorem aJ'.ne {w:World} {nv mv:Value} {l:List (Nat×Value)} (h:aJ' w nv mv l) {p:Nat} {c:Array Value} {t:TypeId} {fr:Nat×Nat} (r:w.heap[p]? =some (.cells c t fr)) (u:t≠3):¬ShU nv mv p:=by
 rintro(f|f)
 ·exact(ao'.of_own h.nums).ne r (fun e=>u e.symm) f
 ·rcases h.map with ⟨rfl,_⟩|⟨b,rfl,z⟩
  ·cases f
  ·cases f;exact z.not_cells r
structure ew' (w:World) (p o:Nat) (t:TypeId) (arr:Array Value) (nv mv:Value) (l:List (Nat×Value)):Prop where
 blk:w.heap[p]? =some (.cells arr t (0,0))
 c0:arr[o]? =some nv
 c1:arr[o+1]? =some mv
 sh:aJ' w nv mv l
 ty:t≠3
structure bY' (w x:World) (p o:Nat) (t:TypeId) (arr:Array Value) (nv mv:Value) (l':List (Nat×Value)):Prop where
 out:∃nv' mv',ew' x p o t ((arr.setIfInBounds o nv').setIfInBounds (o+1) mv') nv' mv' l'/\Loc w nv nv'/\(aQ' mv'=aQ' mv\/∃g,aQ' mv'=some g/\w.heap.size<=g)
 far:Far (fun k=>k=p\/ShU nv mv k) w x
theorem bb' {arr:Array Value} {i:Nat} {v:Value} (h:arr[i]? =some v):arr.setIfInBounds i v=arr:=by
 apply Array.ext';rw[Array.toList_setIfInBounds];apply List.ext_getElem?;intro j;rw[List.getElem?_set];by_cases f:i=j
 ·subst f;have r:i < arr.size:=(Array.getElem?_eq_some_iff.1 h).1;rw[if_pos rfl,Array.length_toList,if_pos r];simpa using h.symm
 ·simp[f]
theorem set_comm {arr:Array Value} {i j:Nat} (f v:Value) (h:i≠j):(arr.setIfInBounds i f).setIfInBounds j v=(arr.setIfInBounds j v).setIfInBounds i f:=by
 apply Array.ext';simp only[Array.toList_setIfInBounds];exact List.set_comm _ _ h
theorem aF'.notMap {w:World} {v:Value} {ns:List Nat} {b:Nat} {f:Int->Option Value} (N:aF' w v ns) (r:aT' w b f):v.ownBlock≠some b:=by
 intro h;rcases N.cases with ⟨rfl,_⟩|⟨g,cap,z,rfl,u,_⟩
 ·cases h
 ·cases h;exact r.not_cells u
theorem bw' {w x:World} {a b:Value} (h:Loc x a b) (hs:w.heap.size<=x.heap.size):Loc w a b:=by
 rcases h with h|h|⟨g,h,f⟩
 ·exact .inl h
 ·exact .inr (.inl h)
 ·exact .inr (.inr ⟨g,h,Nat.le_trans hs f⟩)
theorem dX' {w r W:World} {p o:Nat} {t:TypeId} {arr:Array Value} {nv nv' mv:Value} {l:List (Nat×Value)} {n f:Nat} {v:Value} (h0:o < arr.size) (h1:o+1 < arr.size) (z:r.heap[p]? =some (.cells ((arr.setIfInBounds o nv').setIfInBounds (o+1) (.map (some f))) t (0,0))) (H:t≠3)
  (N:aF' r nv' ((aV' l n v).map (·.1))) (D:aT' r f (an' l)) (I:Far (fun k=>k=p\/nv.ownBlock=some k) w r) (hl:Loc w nv nv') (F:aQ' mv=some f\/w.heap.size<=f)
  (J:aT' W f (jx' (an' l) n v)) (u:Far (fun k=>k=f) r W) (hs:(l.map (·.1)).Pairwise (· < ·)) (O:l.length < 1000):bY' w W p o t arr nv mv (aV' l n v):=by
 have M:¬p=f:=fun e=>D.not_cells (by rw[<-e];exact z);refine⟨⟨nv', .map (some f),⟨u.blk z M,?_,?_,⟨N.keep (fun g G=>u.rest g (World.ownsRow.lt N g G).2 (fun e=>N.notMap D (by rw[G,e]))), .inr ⟨f,rfl,by rw[fU'];exact J⟩,om' hs,by have:=fp' l n v;omega⟩,H⟩,hl,?_⟩,?_⟩
 ·rw[Array.getElem?_setIfInBounds_ne (by omega)];simp[h0]
 ·simp[h1]
 ·rcases F with h|h
  ·exact .inl h.symm
  ·exact .inr ⟨f,rfl,h⟩
 ·refine(I.mono (fun k _ h=>h.elim .inl (fun h=> .inr (.inl h)))).trans u (fun k Q e=>?_);rcases F with h|h
  ·exact .inr (.inr (by rw[h,e]))
  ·omega
def vI' (B:Nat) (f:List Value) (v:Value) (w:World):Prop:=∃g,v= .slice (some ⟨g,0,none⟩) 1 1/\B<=g/\w.heap[g]? =some (.cells f.toArray 261 (0,0))
theorem on' (B:Nat) (f:List Value):bA' (vI' B f):=fun _ _ _ h r=>by
 obtain⟨g,e,h1,h2⟩:=h;exact⟨g,e,h1,(r.block g (lt_of_block h2)).trans h2⟩
theorem gZ' {B:Nat} {f:List Value} {E:Nat->Prop} (r:∀k,E k->k < B):aU' E (vI' B f):=fun _ _ _ h hF=>by
 obtain⟨g,e,h1,h2⟩:=h;exact⟨g,e,h1,hF.blk h2 (fun e=>by have:=r _ e;omega)⟩
def uG' (w0:World) (f:Value) (r:List Value) (v:Value) (w:World):Prop:=ao' w 261 65 v 1 r/\Loc w0 f v/\w0.heap.size<=w.heap.size
theorem iZ' (w0:World) (r:Value) (u:List Value):bA' (uG' w0 r u):=fun _ _ _ h f=>
 ⟨h.1.keep (fun g z=>f.block g (h.1.lt g z)),h.2.1,Nat.le_trans h.2.2 f.size⟩
theorem ha' {w0:World} {r:Value} {u:List Value} {E:Nat->Prop} (z:∀k,E k->k < w0.heap.size/\r.ownBlock≠some k):aU' E (uG' w0 r u):=fun _ _ _ h hF=>
 ⟨h.1.far hF (fun g f e=>by
  obtain⟨h1,h2⟩:=z g e;rcases h.2.1 with h3|h3|⟨k,h3,h4⟩
  ·rw[h3]at f;cases f
  ·rw[h3]at f;exact h2 f
  ·rw[h3]at f;cases f;omega),h.2.1,Nat.le_trans h.2.2 hF.size⟩
theorem ki':(Tryz.prog.info? 261).map (fun i=>(i.zero,i.size,i.bytes))=some (some (.agg (.int .i64 0::bv aP').toArray),65,72):=by kernel_rfl
def uH' (w0:World) (p:Nat) (lv f:Value) (n:Int) (r:List Value) (w:World):Prop:=
 ∃v,w.heap[p]? =some (.cells #[lv,v, .int .i64 n, .bool false] 252 (0,0))/\uG' w0 f r v w
theorem ja' (w0:World) (p:Nat) (lv f:Value) (n:Int) (r:List Value):bA' (fun _ w=>uH' w0 p lv f n r w):=fun _ _ _ h u=>by
 obtain⟨v,h1,h2⟩:=h;exact⟨v,(u.block p (lt_of_block h1)).trans h1,iZ' w0 f r _ _ _ h2 u⟩
theorem iv' {o:Oper} {a:Act} {w:World} {K:Act->World->Prop} {z:Exit->Act->World->Prop} (x y:Operand) (D:o.op= .build 261 #[(0,x),(1,y)]) (k:Int) (S:List UInt8) (F:S.length=64)
  (f:a.eval x= .int .i64 k) (r:a.eval y= .agg (bv S).toArray) (h:K (a.put o.dst (.agg (.int .i64 k::bv S).toArray)) w):o.wp Tryz.prog a w K z:=by
 have u:=oh' k S F;refine wp_build 261 #[(0,x),(1,y)] D ?_ ?_
 ·simp only[List.map_toArray,List.map_cons,List.map_nil,f,r,u];rfl
 ·simp only[List.map_toArray,List.map_cons,List.map_nil,f,r,u];exact h
theorem mY' (w:World) (f:List Value) (r:f.length=65):(Instr.buildSlice 250 1 #[(0, .agg f.toArray)]).run Tryz.prog w= .ok (.slice (some ⟨w.heap.size,0,none⟩) 1 1) (w.alloc (.cells f.toArray 261)):=by
 obtain⟨i0,hi,z,D,G⟩:=bj' ki';have F:∀C:Array Value,C.size=65->Instr.fill (fun i=>some (i * 65,65)) C [(0, .agg f.toArray)]=some f.toArray:=by intro C u;have e:=kb' 0 f 0 C (by omega);simp only[Instr.fill,Value.cells];simp[r,u];simp at e;rw[e];simp[r,u]
 simp[Instr.buildSlice,run_underlying Tryz.underlying250,sizeOf,typeInfo,hi,D,zeroValue,z];rw[F _ (by simp)];simp[newRow]
theorem lJ' {o:Oper} {a:Act} {w:World} {K:Act->World->Prop} {r:Exit->Act->World->Prop} (x:Operand) (u:o.op= .buildSlice 250 1 #[(0,x)]) (f:List Value) (z:f.length=65)
  (D:a.eval x= .agg f.toArray) (h:K (a.put o.dst (.slice (some ⟨w.heap.size,0,none⟩) 1 1)) (w.alloc (.cells f.toArray 261))):o.wp Tryz.prog a w K r:=by
 unfold Oper.wp execOp;simp only[u,List.map_toArray,List.map_cons,List.map_nil,D,Sem.run_bind,mY' w f z,Result.andThen_ok];exact h
theorem mZ' (w:World) (p:Nat) (lv f:Value) (n k:Nat) (S:List UInt8) (Z:S.length=64) (aP:n≠1) (aQ:n<=9223372036854775807)
  (G:w.heap[p]? =some (.cells #[lv,f, .int .i64 n, .bool false] 252 (0,0))) (aa:ao' w 261 65 f 0 []):
  Calls Tryz.prog 182 #[.pointer (some ⟨p,0,none⟩), .int .i64 k, .agg (bv S).toArray] w fun aC w'=>
   aC= .returned (.int .i64 0)/\uH' w p lv f (n - 1:Nat) (.int .i64 k::bv S) w'/\Far (fun j=>j=p\/f.ownBlock=some j) w w':=by
 have ah:=lt_of_block G;have O:=aa.ne G (by decide);have Q:∀r,(w.alloc r).heap[p]? =some (.cells #[lv,f, .int .i64 n, .bool false] 252 (0,0)):=fun r=>(hao _ _ ah).trans G;have c3:∀r,(w.alloc r).cell? ⟨p,3,none⟩=some (.bool false):=fun r=>m' (i:=3) (Q r);have c2:∀r,(w.alloc r).cell? ⟨p,2,none⟩=some (.int .i64 n):=fun r=>m' (i:=2) (Q r);have aD:∀r,(w.alloc r).frozen? ⟨p,2,none⟩=false:=fun r=>D' (i:=2) (Q r);have aR:((n:Int) ==1)=false:=by simp;omega
 have aS:IntKind.i64.wrap ((n:Int) - 1)=(n:Int) - 1:=by rw[IntKind.wrap_i64];omega
 have ai:=t' G;have aj:=t' aa;clear G Q aa;go_enter Tryz.func182,Tryz.ntmps182;go_upto_region 7 with fail;obtain⟨H,ak⟩:∃H,H=n - 1:=⟨_,rfl⟩;refine C' (fun x=>x.heap[p]? =some (.cells #[lv,f, .int .i64 H, .bool false] 252 (0,0))/\x.heap[w.heap.size]? =some (.cells (bv S).toArray 207 (0,0))/\ao' x 261 65 f 0 []/\Far (fun j=>j=p) w x/\w.heap.size < x.heap.size) ?_ ?_
 ·have aE:max 0 ((n:Int) - 1)=((H:Nat):Int):=by omega
  rw[aE];refine⟨?_,?_,?_,?_,?_⟩
  ·rw[hao _ _ (by rw[World.size_setCell];exact ah)];have:=af' (j:=2) (v:= .int .i64 H) (i' ai);simpa using this
  ·have:=heap_alloc_new (w.setCell ⟨p,2,none⟩ (.int .i64 H)) (.cells (bv S).toArray 207);rw[World.size_setCell]at this;exact this
  ·exact(i' aj).far ((O' w p 2 (.int .i64 H)).trans (A' ((Below.refl _ _).alloc (Nat.le_refl _) _)) (fun _ _ h=>h)) (fun g u e=>O (by rw[u,e]))
  ·exact(O' w p 2 (.int .i64 H)).trans (A' ((Below.refl _ _).alloc (Nat.le_refl _) _)) (fun _ _ h=>h)
  ·simp
 rintro x ⟨h0,h1,h2,h3,aT⟩;have aU:=lt_of_block h0;have aF:=fun g u=>h2.lt g u;have ao:(Value.int .i64 k::bv S).length=65:=by simp[am',Z]
 obtain⟨I,U⟩:∃I,I=Value.int .i64 k::bv S:=⟨_,rfl⟩;rw[<-U]at ao;have ap:=t' U;have aG:∀V∈I,V.oneCell'=true:=by
  rw[U];intro V hu;cases hu with
  |head=>rfl
  |tail _ hu=>exact cq' S V hu
 clear U;have aq:=t' h0;have au:=t' h1;have av:=t' h2;have aH:=t' h3;clear h0 h1 h2 h3 c3 c2 aD ai aj;refine Q' (by kernel_rfl)
  [fun v _=>v= .pointer (some ⟨p,0,none⟩),fun v _=>v= .pointer (some ⟨p,0,none⟩),fun v _=>v= .pointer (some ⟨p,0,none⟩),fun v _=>v= .pointer (some ⟨p,1,none⟩),fun v _=>v=f,fun v _=>v= .int .i64 k,fun v _=>v= .agg (bv S).toArray,fun v _=>v= .agg I.toArray,vI' x.heap.size I,uG' x f I,fun v _=>v= .pointer (some ⟨p,0,none⟩),fun v _=>v= .pointer (some ⟨p,1,none⟩),fun _ w=>uH' x p lv f H I w]
  [[(0,none)],[(0,none)],[(31,some 1)],[(32,some 2)],[(33,some 3)],[(1,none)],[(5,none)],[(35,some 5),(36,some 6)],[(37,some 7)],[(34,some 4),(38,some 8)],[(30,some 0)],[(40,some 10)],[(41,some 11),(39,some 9)]] [some 30,some 31,some 32,some 33,some 34,some 35,some 36,some 37,some 38,some 39,some 40,some 41,none] [false,false,false,false,false,false,false,false,false,false,false,false,false,false,false,false,false,false,false,false,false,false,false,false,false,false,false,false,false,false,true,true,true,true,true,true,true,true,true,true,true,true]
  [(9,fun j=>f.ownBlock=some j),(12,fun j=>j=p)]
  (by kernel_rfl) (by kernel_rfl) (by kernel_rfl) (by kernel_rfl) (by kernel_rfl) ?_ ?_ ?_ ?_
 ·repeat' (first|exact J' _|exact on' _ _|exact iZ' _ _ _|exact ja' _ _ _ _ _ _|exact trivial|apply And.intro)
 ·repeat' (first|exact trivial|exact .inl rfl|exact .inr (.inr (ak' _ _))|exact .inr (.inr (gZ' (fun g u=>aF g u)))|exact .inr (.inr (gZ' (fun g (u:g=p)=>by omega)))|exact .inr (.inr (ha' (fun g (u:g=p)=>⟨by omega,by rw[u];exact O⟩)))|exact .inr (.inl (by kernel_rfl))|apply And.intro)
 ·refine⟨?_,?_,?_,?_,?_,?_,?_,?_,?_,?_,?_,?_,?_,trivial⟩;all_goals
   intro a M G J;have ab:=G.size;have X:=t' G;clear G;simp only[I',List.getD_cons_zero,List.getD_cons_succ,Array.getD_eq_getD_getElem?]at J;try simp at J
  ·go_simp;exact⟨_,rfl,Far.refl _ _,rfl⟩
  ·go_simp;exact⟨_,rfl,Far.refl _ _,rfl⟩
  ·go_simp;exact⟨_,rfl,Far.refl _ _,rfl⟩
  ·go_simp;exact⟨_,rfl,Far.refl _ _,rfl⟩
  ·have ac:M.cell? ⟨p,1,none⟩=some f:=m' (i:=1) ((i' X).blk (i' aq) (by
    rintro⟨q,z,g1,g2,D⟩;simp at z;rcases z with rfl|rfl
    ·exact O D
    ·exact absurd (show ar' _ 12 4=false from g2) (by decide+kernel)))
   go_simp;exact⟨_,rfl,Far.refl _ _,rfl⟩
  ·go_simp;exact⟨_,rfl,Far.refl _ _,rfl⟩
  ·have ac:=(i' X).blk (i' au) (by
    rintro⟨q,z,g1,g2,D⟩;simp at z;rcases z with rfl|rfl
    ·have:¬f.ownBlock=some w.heap.size:=fun e=>((i' av).ne (i' au) (by decide)) e;exact this D
    ·have D:w.heap.size=p:=D;omega)
   rw[if_pos (by rfl)];refine co' (.tmp 5) rfl w.heap.size (by simp[Act.eval,J]) 207 S Z ac ?_;exact⟨_,rfl,Far.refl _ _,rfl⟩
  ·rw[if_pos (by rfl)];refine iv' (.tmp 35) (.tmp 36) rfl k S Z (by simp[Act.eval,J]) (by simp[Act.eval,J]) ?_;exact⟨_,rfl,Far.refl _ _,by rw[i' ap];rfl⟩
  ·rw[if_pos (by rfl)];refine lJ' (.tmp 37) rfl I ao (by simp[Act.eval,J]) ?_;exact⟨_,rfl,A' ((Below.refl _ _).alloc (Nat.le_refl _) _),_,rfl,ab,heap_alloc_new M _⟩
  ·have aI:=(i' av).far (i' X) (by
    rintro g u ⟨q,z,g1,g2,D⟩;simp at z;rcases z with rfl|rfl
    ·exact g1 rfl
    ·have D:g=p:=D;exact O (by rw[u,D]))
   obtain⟨g,u,aV,aJ⟩:=J.2;refine gz' rfl (.tmp 34) (.tmp 38) 250 rfl 261 _ 65 72 Tryz.underlying250 ki' (by simp[Value.cells,am',ax']) f 0 [] aI (by simp[Act.eval,J]) ⟨g,0,none⟩ 1 1 I (by simp[Act.eval,u]) (by omega) ?_ aG (by omega) (by omega) (by omega) ?_
   ·intro j V hj;rw[cE',m' aJ,List.getElem?_toArray,Nat.zero_add];exact hj
   ·intro aK w' g1 g2;exact⟨aK,rfl,ac' (.head _) (bl' g2.grown),g1,gQ' ab g2,Nat.le_trans ab g2.grown.size⟩
  ·go_simp;exact⟨_,rfl,Far.refl _ _,rfl⟩
  ·go_simp;exact⟨_,rfl,Far.refl _ _,rfl⟩
  ·have Y:=(i' X).blk (i' aq) (by
    rintro⟨q,z,g1,g2,D⟩;simp at z;rcases z with rfl|rfl
    ·exact O D
    ·exact g1 rfl)
   have aW:M.frozen? ⟨p,1,none⟩=false:=D' (i:=1) Y;have ac:M.cell? ⟨p,1,none⟩=some f:=m' (i:=1) Y;obtain⟨aX,ad⟩:=J;obtain⟨ax,cap,aL,_⟩:=ad.1.shape;have aM:=t' Y;have ay:=t' ad;clear ad Y;rw[aL]at ay;go_simp;refine⟨ac' (.tail _ (.head _)) (O' M p 1 _), .slice ax 1 cap,?_,?_⟩
   ·have:=af' (j:=1) (v:= .slice ax 1 cap) (i' aM);rw[<-ak];simpa using this
   ·have az:=i' ay;have aY:=az.2.2;refine ha' (E:=fun j=>j=p) (fun g (u:g=p)=>⟨by omega,by rw[u];exact O⟩) _ _ _ az (O' M p 1 _)
 ·intro F M hF aA;have aB:=aA.2.2.2.2.2.2.2.2.2.2.2.2.1;have aN:=t' aB;have aO:=t' hF;clear aB aA hF;simp only[R'];generalize F 30=aZ;generalize F 31=ba;generalize F 32=bb;generalize F 33=bc;generalize F 34=bd;generalize F 35=be;generalize F 36=bf;generalize F 37=bg;generalize F 38=bh;generalize F 39=bi;generalize F 40=bj;generalize F 41=bk;go_simp;go_wp2;go_ret;refine⟨rfl,?_,?_⟩
  ·rw[<-ak,<-i' ap];obtain⟨v,g1,g2,D,bl⟩:=i' aN;exact⟨v,g1,g2,bw' D (by omega),by omega⟩
  ·refine((i' aH).mono (fun j _ h=> .inl h)).trans (i' aO) (fun j _ h=>?_);obtain⟨q,z,h⟩:=h;simp at z;rcases z with rfl|rfl
   ·exact .inr h
   ·exact .inl h
def bZ' (b:ByteArray) (f:Nat):Value:= .agg #[.string b, .int .i64 f]
def vs':Value:= .agg #[.string ⟨#[]⟩, .int .i64 0]
theorem qq' (w:World):(zeroValue 158).run Tryz.prog w= .ok vs' w:=Tryz.zeroValue158 w
def na' (l:List (Nat×Value)):Prop:=∀x∈l,∃b f,x.2=bZ' b f
theorem sl' {l:List (Nat×Value)} (h:na' l) (k:Int):(∃b f,an' l k=some (bZ' b f))\/an' l k=none:=by
 cases r:an' l k with
 |none=>exact .inr rfl
 |some v=>obtain⟨x,u,_,rfl⟩:=cZ' r;obtain⟨b,f,e⟩:=h x u;exact .inl ⟨b,f,by rw[e]⟩
theorem to' {w:World} {p o:Nat} {arr:Array Value} {t:TypeId} {nv mv:Value} {l:List (Nat×Value)} (f:w.heap[p]? =some (.cells arr t (0,0))) (h1:arr[o+1]? =some mv) (S:aJ' w nv mv l) (A:na' l) (n:Int):
  Calls Tryz.prog 150 #[.pointer (some ⟨p,o,none⟩), .int .i64 n] w fun e w'=>e= .returned (.bool (an' l n).isSome)/\Below w.heap.size w w':=by
 have c1:w.cell? ⟨p,o+1,none⟩=some mv:=(m' f).trans h1;have r:=(bf' (P:=Tryz.prog) (w:=w) (t:=137) Tryz.underlying137 Tryz.underlying3 (qq' w) S.map n).1;clear S f h1;rcases sl' A n with ⟨b,u,h⟩|h;all_goals
  rw[h]at r ⊢;simp only[Option.getD_some,Option.getD_none,Option.isSome_some,Option.isSome_none,bZ',vs']at r ⊢;clear h A;go_enter Tryz.func150,Tryz.ntmps150;go_wp2;go_ret;refine⟨rfl,?_⟩;exact(Below.refl _ _).alloc (Nat.le_refl _) _
theorem oo' {w:World} {p o:Nat} {t:TypeId} {arr:Array Value} {nv mv:Value} {l:List (Nat×Value)} (S:ew' w p o t arr nv mv l) (hl:l.length < 1000) (n:Nat) (b:ByteArray) (u:Nat):
  Calls Tryz.prog 90 #[.pointer (some ⟨p,o,none⟩), .int .i64 n,bZ' b u] w fun e w'=>e= .returned (.tuple #[])/\bY' w w' p o t arr nv mv (aV' l n (bZ' b u)):=by
 obtain⟨Q,h0,h1,S,U⟩:=S;obtain⟨aC,aa⟩:∃m,m=mv:=⟨_,rfl⟩;rw[<-aa];have aa:=t' aa;have c0:w.cell? ⟨p,o,none⟩=some nv:=(m' Q).trans h0;have c1:w.cell? ⟨p,o+1,none⟩=some mv:=(m' Q).trans h1;unfold bZ';have aD:=lt_of_block Q;go_enter Tryz.func90,Tryz.ntmps90;go_upto_region 1 with fail;refine C' (fun x=>x.heap[p]? =some (.cells arr t (0,0))/\x.heap[w.heap.size]? =some (.cells #[.string b, .int .i64 u] 158 (0,0))/\aJ' x nv mv l/\Far (fun _=>False) w x/\w.heap.size < x.heap.size) ?_ ?_
 ·have G:Far (fun _=>False) w (w.alloc (.cells #[.string b, .int .i64 u] 158)):=A' ((Below.refl _ _).alloc (Nat.le_refl _) _);exact⟨G.blk Q id,heap_alloc_new w _,S.far G (fun _ _ h=>h),G,by simp⟩
 clear c0 c1 S;rintro x ⟨r,D,S,G,M⟩;have c0:x.cell? ⟨p,o,none⟩=some nv:=(m' r).trans h0;have c1:x.cell? ⟨p,o+1,none⟩=some mv:=(m' r).trans h1;have aE:x.frozen? ⟨p,o+1,none⟩=false:=by simp[World.frozen?,r]
 have aF:= @run_makeMap Tryz.prog;have aG:∀y:World,(binOp .eql 137 (.map none) (.map none)).run Tryz.prog y= .ok (.bool true) y:=fun y=>by kernel_rfl
 have aH:∀ (y:World) (m:Nat),(binOp .eql 137 (.map (some m)) (.map none)).run Tryz.prog y= .ok (.bool false) y:=fun y m=>by kernel_rfl
 have ab:(x.alloc (.map #[] 0)).heap[p]? =some (.cells arr t (0,0)):=(Below.heap_alloc x _ p (lt_of_block r)).trans r;have aI:(x.alloc (.map #[] 0)).cell? ⟨p,o+1,none⟩=some mv:=(m' ab).trans h1;have aJ:(x.alloc (.map #[] 0)).frozen? ⟨p,o+1,none⟩=false:=by simp[World.frozen?,ab]
 rcases S.map with ⟨rfl,ac⟩|⟨O,rfl,ac⟩;all_goals
  go_upto_region 3 with fail
  refine C' (fun y=>∃O,y.heap[p]? =some (.cells (arr.setIfInBounds (o+1) (.map (some O))) t (0,0))/\y.heap[w.heap.size]? =some (.cells #[.string b, .int .i64 u] 158 (0,0))/\aF' y nv (l.map (·.1))/\aT' y O (an' l)/\
   Far (fun k=>k=p) w y/\w.heap.size < y.heap.size/\(aQ' aC=some O\/w.heap.size<=O)) ?_ ?_
 ·refine⟨x.heap.size,af' ab,(S' (by omega)).trans ((Below.heap_alloc x _ _ M).trans D),?_,?_,?_,?_, .inr (Nat.le_of_lt M)⟩
  ·exact S.nums.keep (fun g H=>(S' (fun e=>S.ne r U (.inl (by rw[<-e];exact H)))).trans (Below.heap_alloc x _ g (World.ownsRow.lt S.nums g H).2))
  ·rw[ac];exact(fS' x).keep (S' (by have:=lt_of_block r;omega))
  ·exact((G.mono (fun _ _ h=>h.elim)).trans (A' ((Below.refl _ x).alloc (Nat.le_refl _) _)) (fun _ _ h=>h)).trans (O' _ p (o+1) _) (fun _ _ h=>h)
  ·simp;omega
 rotate_left
 ·refine⟨O,by rw[bb' h1];exact r,D,S.nums,ac,G.mono (fun _ _ h=>h.elim),M, .inl (by rw[i' aa];rfl)⟩
 all_goals
  have hs:=t' S.sorted;clear c0 c1 ab aI aJ aE D S ac r M aF aG aH G aD;rintro y ⟨z,r,D,N,F,ay,M,az⟩;have aA:o < arr.size:=(Array.getElem?_eq_some_iff.1 h0).1;have V:o+1 < arr.size:=(Array.getElem?_eq_some_iff.1 h1).1;have a0:(arr.setIfInBounds (o+1) (.map (some z)))[o]? =some nv:=by rw[Array.getElem?_setIfInBounds_ne (by omega)];exact h0
  have a1:(arr.setIfInBounds (o+1) (.map (some z)))[o+1]? =some (.map (some z)):=by simp[V]
  have c0:y.cell? ⟨p,o,none⟩=some nv:=(m' r).trans a0;have I:=fV' (v:=bZ' b u) (n:=n) (i' hs);have J:=cu' N (i' hs) (by simp;omega) n;have aj:(l.map (·.1)).countP (· < n)<=(l.map (·.1)).length:=List.countP_le_length;have aK:(l.map (·.1)).length < 1000:=by simpa using hl
  generalize (l.map (·.1)).countP (· < n)=k at I J aj;generalize (l.map (·.1)).contains n=c at I J;generalize l.map (·.1)=ns at I J aj N aK;replace I:=t' I;replace J:=t' J;cases c
  ·go_upto_region 4 with (go_at_call 132;refine(i' J).mono ?_;rintro e aL ⟨rfl,q,rfl⟩)
   go_upto_region 6 with fail
   refine(eL' (w:=(y.drewN q).alloc (.cells #[.int .i64 n] 3)) (ns:=ns) (N.keep (fun g H=>Below.heap_alloc (y.drewN q) _ g (World.ownsRow.lt N g H).2)) (by omega) k n y.heap.size aj (heap_alloc_new (y.drewN q) _) (fun e=>by have:=(World.ownsRow.lt N _ e).2;omega)).mono ?_;rintro e f ⟨nv',rfl,ad,ah,aM⟩;have ai:=ah.blk ((Below.heap_alloc (y.drewN q) _ p (lt_of_block r)).trans r) (fun e=>(ao'.of_own N).ne r (fun e=>U e.symm) e);have aN:=ah.blk ((Below.heap_alloc (y.drewN q) _ _ M).trans D) (fun e=>(ao'.of_own N).ne D (by decide) e);have aT:=(m' ai).trans a0;have aU:f.frozen? ⟨p,o,none⟩=false:=by simp[World.frozen?,ai]
   obtain⟨aO,X⟩:∃x,x=ns.take k++n::ns.drop k:=⟨_,rfl⟩;rw[<-X]at ad;obtain⟨g',aP,rfl⟩:=fP' ad (by rw[X];simp only[List.length_append,List.length_cons];omega);replace X:=t' X;go_upto_region 6 with fail;refine C' (fun f=>∃nv',f.heap[p]? =some (.cells ((arr.setIfInBounds o nv').setIfInBounds (o+1) (.map (some z))) t (0,0))/\f.heap[w.heap.size]? =some (.cells #[.string b, .int .i64 u] 158 (0,0))/\aF' f nv' ((aV' l n (bZ' b u)).map (·.1))/\aT' f z (an' l)/\
    Far (fun k=>k=p\/nv.ownBlock=some k) w f/\Loc w nv nv') ?_ ?_
   ·have aQ:nv.ownBlock≠some z:=N.notMap F;have aR:∀g,(Value.slice (some ⟨g',0,none⟩) aO.length aP).ownBlock=some g->g≠p:=fun g H e=>(ao'.of_own ad).ne ai (fun e=>U e.symm) (by rw[H,e]);have Y:=i' I;simp only[Bool.false_eq_true,if_false]at Y;have aB:Far (fun _=>False) y ((y.drewN q).alloc (.cells #[.int .i64 n] 3)):=(ag' (fun _=>False) y q).trans (A' ((Below.refl _ _).alloc (Nat.le_refl _) _)) (fun _ _ h=>h);have aS:Far (fun b=>b=p\/nv.ownBlock=some b) w f:=(ay.mono (fun _ _ h=> .inl h)).trans ((aB.mono (fun _ _ h=>h.elim)).trans ah (fun _ _ h=>h)) (fun _ _ h=> .inr h);refine⟨_,?_,(S' (by have:=lt_of_block Q;omega)).trans aN,?_,?_,aS.trans (O' f p o _) (fun _ _ h=> .inl h),bw' aM (by simp;omega)⟩
    ·rw[set_comm _ _ (show o≠o+1 by omega)];exact af' ai
    ·rw[Y,<-i' X];exact ad.keep (fun g H=>S' (aR g H))
    ·exact F.keep ((S' (fun e=>F.not_cells (by rw[e];exact r))).trans ((ah.rest _ (by have:=F.lt;simp;omega) aQ).trans (aB.rest _ F.lt id)))
   ·skip
    rintro f ⟨nv',r,D,ak,F,G,ao⟩;obtain⟨Z,ap,aq⟩:=bu' (P:=Tryz.prog) (w:=f) (t:=137) Tryz.underlying137 Tryz.underlying3 F n (bZ' b u);have au:=ap f.drew rfl;unfold bZ' at au;have c1:f.cell? ⟨p,o+1,none⟩=some (.map (some z)):=(m' r).trans (by simp[V]);have av:=m' (i:=0) D;have ax:=m' (i:=1) D;simp at av ax;go_region;refine bodyPost_end (results_none rfl _ _ _) rfl ⟨rfl,?_⟩;exact dX' (v:=bZ' b u) (W:={f.drew with heap:=f.drew.heap.setIfInBounds z Z}) aA V r U ak F G ao az aq ((ag' _ f 1).trans (aW' z Z) (fun _ _ h=>h)) (i' hs) hl
  ·go_upto_region 4 with (go_at_call 132;refine(i' J).mono ?_;rintro e aL ⟨rfl,q,rfl⟩)
   go_upto_region 6 with fail
   refine C' (fun f=>∃nv',f.heap[p]? =some (.cells ((arr.setIfInBounds o nv').setIfInBounds (o+1) (.map (some z))) t (0,0))/\f.heap[w.heap.size]? =some (.cells #[.string b, .int .i64 u] 158 (0,0))/\aF' f nv' ((aV' l n (bZ' b u)).map (·.1))/\aT' f z (an' l)/\
    Far (fun k=>k=p\/nv.ownBlock=some k) w f/\Loc w nv nv') ?_ ?_
   ·have Y:=i' I;simp only[if_true]at Y;refine⟨nv,?_,D,by rw[Y];exact N,F,(ay.mono (fun _ _ h=> .inl h)).trans (ag' _ y q) (fun _ _ h=>h), .inr (.inl rfl)⟩;rw[bb' h0];exact r
   ·skip
    rintro f ⟨nv',r,D,ak,F,G,ao⟩;obtain⟨Z,ap,aq⟩:=bu' (P:=Tryz.prog) (w:=f) (t:=137) Tryz.underlying137 Tryz.underlying3 F n (bZ' b u);have au:=ap f.drew rfl;unfold bZ' at au;have c1:f.cell? ⟨p,o+1,none⟩=some (.map (some z)):=(m' r).trans (by simp[V]);have av:=m' (i:=0) D;have ax:=m' (i:=1) D;simp at av ax;go_region;refine bodyPost_end (results_none rfl _ _ _) rfl ⟨rfl,?_⟩;exact dX' (v:=bZ' b u) (W:={f.drew with heap:=f.drew.heap.setIfInBounds z Z}) aA V r U ak F G ao az aq ((ag' _ f 1).trans (aW' z Z) (fun _ _ h=>h)) (i' hs) hl
theorem op' {w:World} {p o:Nat} {arr:Array Value} {t:TypeId} {nv mv:Value} {l:List (Nat×Value)} (f:w.heap[p]? =some (.cells arr t (0,0))) (h0:arr[o]? =some nv) (S:aJ' w nv mv l):
  Calls Tryz.prog 143 #[.pointer (some ⟨p,o,none⟩)] w fun e w'=>e= .returned (.int .i64 l.length)/\w'=w:=by
 have c0:w.cell? ⟨p,o,none⟩=some nv:=(m' f).trans h0;have hl:(l.map (·.1)).length=l.length:=List.length_map _;rcases S.nums.cases with ⟨rfl,r⟩|⟨g,cap,F,rfl,u,z,G,r,D⟩
 ·obtain rfl:l=[]:=by simpa using r
  go_enter Tryz.func143,Tryz.ntmps143;go_wp2;go_ret;exact⟨rfl,rfl⟩
 ·rw[hl]at c0;clear f S h0 u z D hl;generalize l.length=n at *;go_enter Tryz.func143,Tryz.ntmps143;go_wp2;go_ret;exact⟨rfl,rfl⟩
theorem tp' {l:List (Nat×Value)} {x:Nat×Value}:(H' ((l++[x]).map (·.1)))[l.length]? =some (.int .i64 (x.1:Int)):=by
 simp[H']
theorem mn' {w:World} {p o:Nat} {arr:Array Value} {t:TypeId} {nv mv:Value} {l:List (Nat×Value)} (r:w.heap[p]? =some (.cells arr t (0,0))) (h0:arr[o]? =some nv) (S:aJ' w nv mv l):
  Calls Tryz.prog 129 #[.pointer (some ⟨p,o,none⟩)] w fun e w'=>e= .returned (.tuple #[.int .i64 (match l.getLast? with|none=>0|some x=>x.1:Nat), .bool l.getLast?.isSome])/\∃n,w'=w.drewN n:=by
 have c0:w.cell? ⟨p,o,none⟩=some nv:=(m' r).trans h0;have hl:(l.map (·.1)).length=l.length:=List.length_map _;rcases List.eq_nil_or_concat l with rfl|⟨f,x,u⟩
 ·obtain⟨M,cap,e,_⟩:=(ao'.of_own S.nums).shape;subst e;simp only[List.map_nil,List.length_nil]at c0;clear r S h0 hl;go_enter Tryz.func129,Tryz.ntmps129;go_wp2;go_ret2;exact⟨rfl,0,rfl⟩
 ·obtain rfl:l=f++[x]:=by rw[u,List.concat_eq_append]
  clear u;rcases S.nums.cases with ⟨rfl,z⟩|⟨g,cap,O,rfl,G,H,Q,z,I⟩
  ·simp at z
  ·have D:((f++[x]).map (·.1)).length=f.length+1:=by simp
   have U:w.cell? ⟨g,f.length,none⟩=some (.int .i64 (x.1:Int)):=by rw[World.ownsRow.cellAt S.nums f.length (by simp)];exact tp'
   have J:=S.len;simp only[List.length_append,List.length_singleton]at J;rw[D]at c0;have F:(f++[x]).getLast?=some x:=by simp
   rw[F];clear r S h0 G H I hl D F;generalize f.length=n at *;have V:IntKind.i64.wrap ((n:Int)+1 - 1)=n:=by rw[IntKind.wrap_i64];omega
   go_enter Tryz.func129,Tryz.ntmps129;go_wp2;go_quiet (fail);go_wp2;go_ret2;exact⟨rfl,_,rfl⟩
def bm' (l:List (Nat×Value)) (n:Nat):Nat:=l.countP (·.1<=n)
theorem uI' {ns:List Nat} {n:Nat} (hs:ns.Pairwise (· < ·)):ns.countP (· < n)+(if ns.contains n then 1 else 0)=ns.countP (· <=n):=by
 induction ns with
 |nil=>rfl
 |cons x f ih=>
  rw[List.pairwise_cons]at hs;obtain⟨h0,hs⟩:=hs;have ih:=ih hs;rw[List.countP_cons,List.countP_cons,List.contains_cons];by_cases h1:x=n
  ·subst h1;have r:f.contains x=false:=by
    cases h:f.contains x with
    |false=>rfl
    |true=>have:=h0 x (by simpa using h);omega
   rw[r]at ih;simp only[Bool.false_eq_true,if_false,Nat.add_zero]at ih;simp[ih]
  ·have u:(n==x)=false:=by simp;omega
   rw[u,Bool.false_or];generalize (if f.contains n=true then 1 else 0)=z at *;by_cases h2:x < n
   ·have h3:x<=n:=by omega
    simp only[h2,h3,decide_true,if_true];omega
   ·have h3:¬x<=n:=by omega
    simp only[h2,h3,decide_false,Bool.false_eq_true,if_false];omega
theorem tq' {l:List (Nat×Value)} {n:Nat} (hs:(l.map (·.1)).Pairwise (· < ·)):(l.map (·.1)).countP (· < n)+(if(l.map (·.1)).contains n then 1 else 0)=bm' l n:=by
 rw[uI' hs,List.countP_map];rfl
theorem tr' (l:List (Nat×Value)) (n:Nat):bm' l n<=l.length:=List.countP_le_length
theorem sm' {l:List (Nat×Value)} {n:Nat} (hs:(l.map (·.1)).Pairwise (· < ·)):(∀x∈l.take (bm' l n),x.1<=n)/\∀x∈l.drop (bm' l n),n < x.1:=by
 induction l with
 |nil=>simp[bm']
 |cons x r ih=>
  rw[List.map_cons,List.pairwise_cons]at hs;obtain⟨h0,hs⟩:=hs;obtain⟨z,i2⟩:=ih hs;by_cases h:x.1<=n
  ·have u:bm' (x::r) n=bm' r n+1:=by simp[bm',h]
   rw[u,List.take_succ_cons,List.drop_succ_cons];refine⟨fun y f=>?_,i2⟩;cases f with
   |head=>exact h
   |tail _ f=>exact z y f
  ·have u:bm' (x::r) n=0:=by
    unfold bm';rw[List.countP_eq_zero];intro y f;cases f with
    |head=>simpa using h
    |tail _ f=>have:=h0 y.1 (List.mem_map.2 ⟨y,f,rfl⟩);simp;omega
   rw[u];refine⟨by simp,fun y f=>?_⟩;cases f with
   |head=>omega
   |tail _ f=>have:=h0 y.1 (List.mem_map.2 ⟨y,f,rfl⟩);omega
theorem kj' {x:Nat×Value} {f:List (Nat×Value)} (h:∀y∈f,x.1 < y.1):lH' (an' (x::f)) x.1=an' f:=by
 funext k;unfold lH';by_cases r:k=(x.1:Int)
 ·rw[if_pos r];cases u:an' f k with
  |none=>rfl
  |some v=>obtain⟨y,z,e,_⟩:=cZ' u;have:=h y z;omega
 ·rw[if_neg r,bQ',if_neg r]
theorem Far.behind {E:Nat->Prop} {w x y:World} (h:Far E w x) (f:Below w.heap.size x y):Far E w y:=
 ⟨f.os.trans h.os,f.tape.trans h.tape,f.output.trans h.output,Nat.le_trans h.size f.size,fun k r u=>(f.block k r).trans (h.rest k r u)⟩
theorem cU' {w w':World} {B size:Nat} {e:TypeId} {v:Value} {n:Nat} {xs:List Value} (h:w.ownsRow B e size v n xs) (f:∀g,v.ownBlock=some g->w'.heap[g]? =w.heap[g]?):w'.ownsRow B e size v n xs:=by
 obtain⟨h1,h2⟩:=h;refine⟨h1,?_⟩;rcases h2 with h2|⟨g,cap,r,rfl,u,z,D⟩
 ·exact .inl h2
 ·exact .inr ⟨g,cap,r,rfl,u,by rw[f g rfl];exact z,D⟩
def fs':Value->List Value
 | .agg a=>a.toList
 |v=>[v]
def ex' (l:List (Nat×Value)):List Value:=l.flatMap fun x=>fs' x.2
theorem mo' (l:List (Nat×Value)) (x:Nat×Value):ex' (l++[x])=ex' l++fs' x.2:=by simp[ex']
structure dA' (w x:World) (p o:Nat) (t:TypeId) (arr:Array Value) (nv mv:Value) (l':List (Nat×Value)):Prop where
 out:∃nv',ew' x p o t (arr.setIfInBounds o nv') nv' mv l'/\nv'.ownBlock=nv.ownBlock
 far:Far (fun k=>k=p\/ShU nv mv k) w x
theorem dA'.step {w x:World} {p o:Nat} {t:TypeId} {arr:Array Value} {nv mv:Value} {f:List (Nat×Value)} (h:dA' w x p o t arr nv mv f) (h1:arr[o+1]? =some mv):bY' w x p o t arr nv mv f:=by
 obtain⟨nv',S,e⟩:=h.out;have r:(arr.setIfInBounds o nv').setIfInBounds (o+1) mv=arr.setIfInBounds o nv':=bb' (by rw[Array.getElem?_setIfInBounds_ne (by omega)];exact h1);exact⟨⟨nv',mv,by rw[r];exact S, .inr (.inl e), .inl rfl⟩,h.far⟩
theorem vJ':(Tryz.prog.info? 158).map (fun i=>(i.zero,i.size,i.bytes))=some (some (.agg #[.string ⟨#[]⟩, .int .i64 0]),2,24):=by kernel_rfl
theorem lK' {w:World} {p o:Nat} {t:TypeId} {arr:Array Value} {nv mv:Value} {l:List (Nat×Value)} (S:ew' w p o t arr nv mv l) (A:na' l) (n:Nat):
  Calls Tryz.prog 200 #[.pointer (some ⟨p,o,none⟩), .int .i64 n] w fun e w'=>∃v,e= .returned v/\
   w'.ownsRow w.heap.size 158 2 v (bm' l n) (ex' (l.take (bm' l n)))/\dA' w w' p o t arr nv mv (l.drop (bm' l n)):=by
 obtain⟨X,h0,h1,S,aj⟩:=S;have aI:o < arr.size:=(Array.getElem?_eq_some_iff.1 h0).1;have bC:o+1 < arr.size:=(Array.getElem?_eq_some_iff.1 h1).1;have c0:w.cell? ⟨p,o,none⟩=some nv:=(m' X).trans h0;have bD:=S.len;have Y:=cu' S.nums S.sorted (by simp;omega) n;have hcut:=tq' (n:=n) S.sorted;have aJ:=tr' l n;have aK:(l.map (·.1)).countP (· < n)<=l.length:=by have:=List.countP_le_length (p:=(· < n)) (l:=l.map (·.1));simpa using this
 obtain⟨i0,hi,ba,bb,bc⟩:=bj' vJ';generalize bm' l n=O at *;generalize (l.map (·.1)).countP (· < n)=k0 at *;generalize (l.map (·.1)).contains n=c at *;have u:(l.map (·.1)).length=l.length:=List.length_map _;have Z:=t' S;have bE:=t' u;replace Y:=t' Y;rcases S.nums.cases with ⟨ak,aL⟩|⟨g,cap,bF,ak,aM,bd,aN,bG,be⟩
 ·subst ak;obtain rfl:l=[]:=by simpa using aL
  obtain rfl:O=0:=by simpa using aJ
  obtain rfl:k0=0:=by simpa using aK
  have aN:c=false:=by cases c <;> simp_all
  subst aN;have H:=fun y:World=>dy' (bJ' y) 0 0 (by omega) (by simp);simp only[show((0:Nat):Int)=0 from rfl,List.take_nil,List.drop_nil,List.nil_append]at H;have bf:=fun y=>t' (H y);clear S u H hcut aK aJ aL;simp only[show((0:Nat):Int)=0 from rfl]at Y;go_enter Tryz.func200,Tryz.ntmps200;go_upto_region 5 with (go_at_call 132;refine(i' Y).mono ?_;rintro e y ⟨rfl,q,rfl⟩);go_wp2;go_loopw[5,9,29] (fun v5 _ i wr=>v5= .slice none 0 0/\i= .int .i64 0/\wr=w.drewN q) (fun _ _ i _=>0)
  case atStart=>exact⟨rfl,rfl,rfl⟩
  case round=>
   obtain⟨rfl,rfl,rfl⟩:=hrel;go_upto_region 12 with fail;refine(i' (bf _)).mono ?_;rintro e r ⟨nv',rfl,I,D,Q⟩;obtain rfl:nv'= .slice none 0 0:=by
    rcases I.cases with ⟨h,_⟩|⟨g',aO,bH,rfl,_⟩
    ·exact h
    ·cases Q
   have ab:Far (fun _=>False) w r:=(ag' (fun _=>False) w q).trans (D.mono (fun _ _ h=>by cases h)) (fun _ _ h=>h);have U:=ab.blk X id;have bg:=(m' U).trans h0;have bh:r.frozen? ⟨p,o,none⟩=false:=by simp[World.frozen?,U]
   replace I:=t' I;replace ab:=t' ab;clear D Q;go_wp2;go_ret;have ao:=i' Z;have bI:r.setCell ⟨p,o,none⟩ (.slice none 0 0)=r.setCell ⟨p,o,none⟩ (.slice none 0 0):=rfl;refine⟨_,rfl,World.ownsRow_nil _ _ _ _,⟨_,⟨af' U,by simp[aI],by rw[Array.getElem?_setIfInBounds_ne (by omega)];exact h1,⟨bJ' _,(ao.far (i' ab) (fun _ _ h=>h)).map.keep (fun b F=>S' (fun e=>?_)),by simp,by simp⟩,aj⟩,rfl⟩,((i' ab).mono (fun _ _ h=>h.elim)).trans (O' r p o _) (fun _ _ h=> .inl h)⟩;exact ao.ne X aj (.inr (by rw[F,e]))
 ·rw[u]at ak bd;subst ak;have bJ:=t' S.nums;cases c;all_goals
   simp only[if_true,if_false,Bool.false_eq_true,Nat.add_zero]at hcut;clear S be u;try (rw[hcut]at Y)
   have bi:((k0:Int)+1=(O:Int))=((k0:Int)+1=(O:Int)):=rfl;try (have bi:(k0:Int)+1=O:=by omega)
   replace hcut:=t' hcut;go_enter Tryz.func200,Tryz.ntmps200;go_upto_region 5 with (go_at_call 132;refine(i' Y).mono ?_;rintro e y ⟨rfl,q,rfl⟩)
  all_goals
   go_wp2;go_loopw[5,9,29] (fun v5 _ i wr=>∃k:Nat,k<=O/\i= .int .i64 k/\wr.ownsRow w.heap.size 158 2 v5 k (ex' (l.take k))/\wr.heap[p]? =some (.cells arr t (0,0))/\aF' wr (.slice (some ⟨g,0,none⟩) l.length cap) (l.map (·.1))/\jw' wr mv (an' (l.drop k))/\Far (fun b=>aQ' mv=some b) w wr) (fun _ _ i _=>l.length - (intOf i).toNat)
   case atStart=>exact⟨0,by omega,rfl,World.ownsRow_nil _ _ _ _,X,(i' Z).nums,by rw[List.drop_zero];exact(i' Z).map,ag' _ w q⟩
   case round=>
    obtain⟨k,bK,rfl,ap,z,N,az,aq⟩:=hrel;by_cases bL:k < O
    ·have u:k < l.length:=by omega
     obtain⟨b,bj,au⟩:=A l[k] (List.getElem_mem u);have av:l.drop k=l[k]::l.drop (k+1):=List.drop_eq_getElem_cons u;have J:an' (l.drop k) (l[k].1:Int)=some l[k].2:=by rw[av,bQ',if_pos rfl]
     have aP:=(i' Z).sorted;have aQ:∀y∈l.drop (k+1),l[k].1 < y.1:=fun y bk=>by
      have h1:((l.drop k).map (·.1)).Pairwise (· < ·):=by rw[List.map_drop];exact aP.drop
      rw[av,List.map_cons,List.pairwise_cons]at h1;exact h1.1 y.1 (List.mem_map.2 ⟨y,bk,rfl⟩)
     have aA:=kj' aQ;rw[<-av]at aA;have aB:ex' (l.take (k+1))=ex' (l.take k)++fs' l[k].2:=by rw[<-mo',List.take_add_one,List.getElem?_eq_getElem u];rfl
     have c0:=(m' z).trans h0;have c1:=(m' z).trans h1;have bM:wr.cell? ⟨g,k,none⟩=some (.int .i64 (l[k].1:Int)):=by rw[N.cell' (by simpa using u)];simp[List.getD_eq_getElem?_getD,u]
     rcases az with ⟨rfl,ac⟩|⟨G,rfl,ac⟩
     ·rw[ac]at J;cases J
     have aR:=(bf' (P:=Tryz.prog) (w:=wr) (t:=137) Tryz.underlying137 Tryz.underlying3 (qq' wr) (.inr ⟨G,rfl,ac⟩) (l[k].1:Int)).2;rw[J,au]at aR;rw[au]at aB;simp only[Option.getD_some,bZ']at aR;have bl:=t' aB;have bm:=t' aA;have ad:=t' ap;have ah:=t' N;have aa:=t' ac;have ax:=t' aq;have bN:=t' au;clear ap N ac aq aB aA J au av aQ aP;generalize aS:l[k].1=bn at *;replace aS:=t' aS;have aT:=(i' ax).size;have bo:G < w.heap.size:=(i' Z).map.lt G rfl;have aU:=lt_of_block X;have bp:=fun g' (f:u5.ownBlock=some g')=>World.ownsRow.lt (i' ad) g' f;go_upto_region 9 with (at_builtin;refine wpList_append_own _ rfl (.tmp 33) (.tmp 40) 272 rfl w.heap.size 158 i0 (.agg #[.string ⟨#[]⟩, .int .i64 0]) 2 24 Tryz.underlying272 hi ba bb bc rfl (by decide) u5 k (ex' (l.take k)) rfl ((i' ad).alloc _) ⟨wr.heap.size,0,none⟩ 1 1 (fs' (bZ' b bj)) rfl rfl bP' (by intro bO hu;simp[fs',bZ']at hu;first|(rcases hu with rfl|rfl <;> rfl)|(subst hu;rfl)) (by unfold maxLen;omega) (by omega) (by simp;omega) ?_;intro bP M ai aV _;have V:Below w.heap.size wr M:=((Below.refl _ wr).alloc aT _).trans (X' (B:=w.heap.size) aV (by simp;omega) (fun g' f=>(bp g' f).1));obtain⟨aC,aW,aD⟩:=eJ' (P:=Tryz.prog) (w:=M) (t:=137) (K':=3) Tryz.underlying137 Tryz.underlying3 ((i' aa).keep (V.block G bo)) bn;have bQ:=fun ty=>aW ty M rfl;have aE:=(V.block p aU).trans z;have bR:=(m' aE).trans h1;replace ai:=t' ai;replace aD:=t' aD;replace V:=t' V;clear aV aW);go_wp2;have bq:p≠G:=fun e=>(i' aa).not_cells (by rw[<-e];exact z);have br:=(i' ah).notMap (i' aa);have bS:=(World.ownsRow.lt (i' ah) g rfl).2;have aF:g < w.heap.size:=lt_of_block aM;have ay:=aW' (w:=M) G aC;have bt:=(i' ah).keep (w':={M with heap:=M.heap.setIfInBounds G aC}) (fun g' f=>by cases f;exact(ay.rest g (Nat.lt_of_lt_of_le aF (Nat.le_trans aT (i' V).size)) (fun e=>br (by rw[e];rfl))).trans ((i' V).block g aF));have bu:=cU' (w':={M with heap:=M.heap.setIfInBounds G aC}) (i' ai) (fun g' f=>ay.rest g' (World.ownsRow.lt (i' ai) g' f).2 (fun e=>by have:=(World.ownsRow.lt (i' ai) g' f).1;omega));refine⟨⟨k+1,by omega,by go_num,by rw[i' bl];exact bu,(ay.rest p (lt_of_block aE) bq).trans aE,bt, .inr ⟨G,rfl,by rw[<-i' bm];exact i' aD⟩,
      ((i' ax).behind (i' V)).trans ay (fun _ _ h=>by rw[h];rfl)⟩,by simp[intOf];omega⟩
    ·obtain rfl:k=O:=by omega
     have ad:=t' ap;have ah:=t' N;have aa:=t' az;have ax:=t' aq;have bw:(l.map (·.1)).length=l.length:=List.length_map _;have aX:g≠p:=fun e=>(ao'.of_own N).ne z (fun e=>aj e.symm) (by rw[<-e];rfl);have c0:=(m' z).trans h0;have H:=dy' N 0 k (by omega) (by omega);rw[show((0:Nat):Int)=0 from rfl,List.take_zero,List.nil_append,<-List.map_drop]at H;replace H:=t' H;clear ap N az aq bw;go_upto_region 12 with fail;refine(i' H).mono ?_;rintro e r ⟨nv',rfl,I,D,Q⟩;have U:=D.blk z (fun e=>aX (by cases e;rfl));have bg:=(m' U).trans h0;have bh:r.frozen? ⟨p,o,none⟩=false:=by simp[World.frozen?,U]
     have J:(List.map (fun x=>x.1) (List.drop k l)).length=l.length - k:=by simp
     have aY:=(ao'.of_own I).shape;rw[J]at aY;obtain⟨bz,aO,rfl,_⟩:=aY;replace J:=t' J;replace I:=t' I;replace Q:=t' Q;replace D:=t' D;go_wp2;go_ret;have ao:=i' Z;have bA:Far (fun b=>b=p\/ShU (.slice (some ⟨g,0,none⟩) l.length cap) mv b) w r:=((i' ax).mono (fun _ _ h=> .inr (.inr h))).trans (i' D) (fun _ _ h=> .inr (.inl h));have aG:∀b,b≠p->(r.setCell ⟨p,o,none⟩ (.slice bz (l.length - k) aO)).heap[b]? =r.heap[b]? :=fun b z=>S' z;have aZ:∀b,aQ' mv=some b->b≠p/\r.heap[b]? =wr.heap[b]? :=fun b F=>by
      rcases i' aa with ⟨h,_⟩|⟨bT,h,aH⟩
      ·rw[h]at F;cases F
      ·rw[h]at F;cases F;exact⟨fun e=>aH.not_cells (by rw[e];exact z),(i' D).rest b aH.lt (fun e=>(i' ah).notMap aH e)⟩
     refine⟨_,rfl,cU' (i' ad) (fun g' f=>?_),⟨_,⟨af' U,by simp[aI],by rw[Array.getElem?_setIfInBounds_ne (by omega)];exact h1,⟨(i' I).keep (fun g' f=>aG g' ?_),(i' aa).keep (fun b F=>(aG b (aZ b F).1).trans (aZ b F).2),by rw[List.map_drop];exact ao.sorted.drop,by rw[List.length_drop];omega⟩,aj⟩,i' Q⟩,bA.trans (O' r p o _) (fun _ _ h=> .inl h)⟩
     ·have bB:=World.ownsRow.lt (i' ad) g' f;have aU:=lt_of_block X;have aF:=lt_of_block aM;exact(aG g' (by omega)).trans ((i' D).rest g' bB.2 (fun e=>by have bU:g=g':=Option.some.inj e;omega))
     ·rw[i' Q]at f;cases f;exact aX
theorem dB' {P:Program} (w:World) (a:Addr) (ty:TypeId) (f:List Value) (u:∀j v,f[j]? =some v->w.cell? (a.add j)=some v)
  (z:(isAgg ty).run P w= .ok true w) (hi:(P.info? ty).map (·.size)=some f.length):
  (loadVar ty a).run P w= .ok (.agg f.toArray) w:=by
 have hl:(loadCells a f.length).run P w= .ok f.toArray w:=run_loadCells_list (P:=P) w a f u;cases r:P.info? ty with
 |none=>simp[r]at hi
 |some i=>
  have hs:i.size=f.length:=by simpa[r]using hi
  simp[loadVar,Sem.run_bind,z,sizeOf,typeInfo,r,hs,hl]
theorem jb' (w:World):(isAgg 261).run Tryz.prog w= .ok true w:=by
 simp[isAgg,run_underlying Tryz.underlying261]
theorem gA':(Tryz.prog.info? 261).map (·.size)=some 65:=by kernel_rfl
theorem hf' {u:Array Oper} {rest:List Oper} {o:Oper} {a:Act} {w:World} {z:Exit->Act->World->Prop} (D:o.guard=none) (x:Operand) (F:o.op= .load 261 x)
  (r:Addr) (G:a.eval x= .pointer (some r)) (f:List Value) (H:f.length=65) (I:∀j v,f[j]? =some v->w.cell? (r.add j)=some v)
  (h:wpList Tryz.prog u z rest (a.put o.dst (.agg f.toArray)) w):wpList Tryz.prog u z (o::rest) a w:=by
 refine wpList_plain D fun K hK=>?_;unfold Oper.wp execOp;simp only[F,G,Instr.loadAt,Instr.sureAddr,Sem.run_bind,Sem.run_pure,Result.andThen_ok,dB' w r 261 f I (jb' w) (by rw[gA',H])];exact hK _ _ h
theorem jy' {o:Oper} {a:Act} {w:World} {K:Act->World->Prop} {u:Exit->Act->World->Prop} (x:Operand) (z:o.op= .load 261 x)
  (r:Addr) (D:a.eval x= .pointer (some r)) (f:List Value) (F:f.length=65) (G:∀j v,f[j]? =some v->w.cell? (r.add j)=some v)
  (h:K (a.put o.dst (.agg f.toArray)) w):o.wp Tryz.prog a w K u:=by
 unfold Oper.wp execOp;simp only[z,D,Instr.loadAt,Instr.sureAddr,Sem.run_bind,Sem.run_pure,Result.andThen_ok,dB' w r 261 f G (jb' w) (by rw[gA',F])];exact h
theorem mp' (w:World) (p:Nat) (lv r:Value) (n:Int) (f:w.heap[p]? =some (.cells #[lv,r, .int .i64 n, .bool true] 252 (0,0))):
  Calls Tryz.prog 183 #[.pointer (some ⟨p,0,none⟩)] w fun u w'=>u= .returned (.tuple #[])/\w'=w:=by
 have c3:w.cell? ⟨p,3,none⟩=some (.bool true):=m' (i:=3) f;clear f;go_enter Tryz.func183,Tryz.ntmps183;go_wp2;exact bodyPost_ret (results_none rfl _ _ _) rfl ⟨rfl,rfl⟩
structure qr' (w x:World) (p:Nat) (lv:Value) (g o cap:Nat) (n:Int) (cs:List Value) (L:List UInt8):Prop where
 blk:x.heap[p]? =some (.cells #[lv, .slice (some ⟨g,o,none⟩) 1 cap, .int .i64 n, .bool false] 252 (0,0))
 un:ao' x 261 65 (.slice (some ⟨g,o,none⟩) 1 cap) 1 cs
 row:x.ownsRow 0 5 1 lv L.length (bv L)
 far:Far (fun j=>lv.ownBlock=some j) w x
theorem ts' (w:World) (p:Nat) (lv V:Value) (n:Int) (k:Nat) (S L:List UInt8) (ai:S.length=64) (X:64 * k+64<=L.length) (aD:L.length<=10000)
  (u:w.heap[p]? =some (.cells #[lv,V, .int .i64 n, .bool false] 252 (0,0))) (hu:ao' w 261 65 V 1 (.int .i64 k::bv S)) (aj:w.ownsRow 0 5 1 lv L.length (bv L)):
  Calls Tryz.prog 183 #[.pointer (some ⟨p,0,none⟩)] w fun ak w'=>ak= .returned (.tuple #[])/\
   ∃Y,w'.heap[p]? =some (.cells #[lv,Y, .int .i64 n, .bool false] 252 (0,0))/\Y.ownBlock=V.ownBlock/\ao' w' 261 65 Y 0 []/\
    w'.ownsRow 0 5 1 lv (Mod.setSec L k S).length (bv (Mod.setSec L k S))/\Far (fun j=>j=p\/lv.ownBlock=some j) w w':=by
 obtain⟨r,H⟩:∃r,r=Value.int .i64 k::bv S:=⟨_,rfl⟩;rw[<-H]at hu;have I:r.length=65:=by rw[H];simp[am',ai]
 have aE:∀Z∈r,Z.oneCell'=true:=by
  rw[H];intro Z hu;cases hu with
  |head=>rfl
  |tail _ hu=>exact cq' S Z hu
 have aF:=t' H;clear H;obtain⟨aU,cap,rfl,aV,aG,M⟩:=hu.shape;obtain⟨g,o,rfl,O⟩:=M (by omega);have aW:=lt_of_block u;have ao:qr' w w p lv g o cap n r L:=⟨u,hu,aj,Far.refl _ _⟩;have c3:w.cell? ⟨p,3,none⟩=some (.bool false):=m' (i:=3) u;have c1:w.cell? ⟨p,1,none⟩=some (.slice (some ⟨g,o,none⟩) 1 cap):=m' (i:=1) u;have ap:=t' ao;clear u hu aj ao O M;go_enter Tryz.func183,Tryz.ntmps183;go_upto_region 2 with fail;go_wp2;go_loopw[3,13] (fun _ i wr=>∃j:Nat,j<=1/\i= .int .i64 j/\qr' w wr p lv g o cap n r (if j=0 then L else Mod.setSec L k S)) (fun _ i _=>1 - (intOf i).toNat)
 case atStart=>exact⟨0,by omega,rfl,i' ap⟩
 case round=>
  obtain⟨j,hj,rfl,f⟩:=hrel;clear ap c1 c3;rcases(show j=0\/j=1 by omega)with rfl|rfl
  ·have f:qr' w wr p lv g o cap n r L:=f;have c0:wr.cell? ⟨p,0,none⟩=some lv:=m' (i:=0) f.blk;have O:∀j v,r[j]? =some v->wr.cell? ((⟨g,o,none⟩:Addr).add j)=some v:=by
    obtain⟨aX,aH,e,_,_,M⟩:=f.un.shape;obtain⟨g',aI,aJ,aK⟩:=M (by omega);cases e;cases aJ;intro j v hj;have aY:j < 65:=by rw[<-I];exact(List.getElem?_eq_some_iff.1 hj).1
    rw[cE',aK j (by omega)];exact hj
   have aZ:=lt_of_block f.blk;have G:=t' f;have aq:=t' O;clear f O;go_upto_region 4 with (first
    |(refine hf' rfl (.tmp 15) rfl ⟨g,o,none⟩ rfl r I (i' aq) ?_)
    |(refine wpList_store_row rfl 261 (.tmp 3) (.tmp 16) rfl wr.heap.size r.toArray rfl rfl 261 _ (heap_alloc_new _ _) (by rw[gA'];simp[I]) (by simp[I]) (by rw[Array.all_eq_true_iff_forall_mem];intro v aL;exact aE v (by simpa using aL)) ?_;go_simp))
   refine C' (fun x=>x.heap[wr.heap.size]? =some (.cells r.toArray 261 (0,0))/\qr' w x p lv g o cap n r L) ?_ ?_
   ·have hF:Far (fun _=>False) wr ((wr.alloc (.cells Tryz.zeroCells261 261)).setRow wr.heap.size r.toArray):=
     ⟨rfl,rfl,rfl,by simp,fun k X _=>(setRow_other _ _ k _ (by omega)).trans (hao _ _ X)⟩
    refine⟨setRow_heap _ _ _ _ _ _ (heap_alloc_new _ _),hF.blk (i' G).blk (fun h=>h),(i' G).un.far hF (fun _ _ h=>h),aw' (i' G).row (fun g J=>hF.rest g (World.ownsRow.lt (i' G).row g J).2 (fun h=>h)),(i' G).far.trans hF (fun _ _ h=>h.elim)⟩
   rintro x ⟨aa,D⟩;have au:x.cell? ⟨p,0,none⟩=some lv:=m' (i:=0) D.blk;have aM:=lt_of_block D.blk;have aN:=lt_of_block aa;have av:=t' aa;have ax:=t' D;have ab:=fun y aO=>t' (sk' y k S L lv ai X aD aO);rw[<-i' aF]at ab;clear aa D G aq c0;refine aj' (by kernel_rfl)
    [fun v _=>v= .agg r.toArray,fun v _=>v= .pointer (some ⟨p,0,none⟩),fun v _=>v= .pointer (some ⟨p,0,none⟩),fun v _=>v= .pointer (some ⟨p,0,none⟩),fun v _=>v=lv,fun _ _=>True]
    [[(3,none)],[(0,none)],[(18,some 1)],[(19,some 2)],[(20,some 3)],[(17,some 0),(21,some 4)]] [some 17,some 18,some 19,some 20,some 21,some 22] [false,false,false,false,false,false,false,false,false,false,false,false,false,false,false,false,false,true,true,true,true,true,true,false,false,false,false,false,false,false,false,false]
    5 _ rfl rfl (by kernel_rfl) (by kernel_rfl) (by kernel_rfl) (by kernel_rfl) (by kernel_rfl) (by kernel_rfl) ?_ ?_ ?_
   ·repeat' (first|exact J' _|exact Z'|exact trivial|apply And.intro)
   ·refine⟨?_,?_,?_,?_,?_,trivial⟩;all_goals
     intro a y u ac;have ba:=(u.cell (p:=⟨p,0,none⟩) (by show p < _;omega)).trans au;have ay:=(u.block _ aN).trans (i' av);clear u;simp only[I',List.getD_cons_zero,List.getD_cons_succ,Array.getD_eq_getD_getElem?]at ac;try simp at ac
    ·rw[if_pos (by rfl)];refine jy' (.tmp 3) rfl ⟨wr.heap.size,0,none⟩ (by simp[Act.eval,ac]) r I ?_ ⟨_,rfl,Below.refl _ _,rfl⟩;intro j v hj;rw[cE',m' ay,List.getElem?_toArray,Nat.zero_add];exact hj
    all_goals
     clear ay;go_simp;try exact⟨_,rfl,Below.refl _ _,rfl⟩
     try exact Below.refl _ _
   ·intro bb y u Q;simp only[ae',List.take]at Q;have az:=Q.1;have aA:=Q.2.2.2.2.1;simp only[R',az,aA];have f:qr' w y p lv g o cap n r L:=by have D:=i' ax;exact⟨(u.block _ aM).trans D.blk,D.un.keep (fun g J=>u.block g (D.un.lt g J)),aw' D.row (fun g J=>u.block g (World.ownsRow.lt D.row g J).2),D.far.trans (A' (E:=fun _=>False) u) (fun _ _ h=>h.elim)⟩
    have ad:=t' f;clear u Q az aA f ax av au;go_simp;refine(i' (ab y (i' ad).row)).mono ?_;rintro ak aP ⟨rfl,aB,U⟩;have f:=i' ad;have aC:∀h,lv.ownBlock=some h->h≠p:=fun h F e=>(ao'.of_own f.row).ne f.blk (by decide) (by rw[F,e]);have z:qr' w aP p lv g o cap n r (Mod.setSec L k S):=
     ⟨U.blk f.blk (fun e=>aC _ e rfl),f.un.far U (fun h F e=>(ao'.of_own f.row).ty f.un (by decide) e F),aB,f.far.trans U (fun _ _ h=>h)⟩
    have aQ:=t' z;clear f z aB U ad ab aC;go_wp2;exact⟨⟨1,by omega,by go_num,i' aQ⟩,by simp[intOf]⟩
  ·have f:qr' w wr p lv g o cap n r (Mod.setSec L k S):=f;have c1:wr.cell? ⟨p,1,none⟩=some (.slice (some ⟨g,o,none⟩) 1 cap):=m' (i:=1) f.blk;have bc:wr.frozen? ⟨p,1,none⟩=false:=D' (i:=1) f.blk;have G:=t' f;clear f;go_wp2;refine bodyPost_end (results_none rfl _ _ _) rfl ⟨rfl,?_⟩;have z:=i' G;have ah:=O' wr p 1 (.slice (some ⟨g,o,none⟩) 0 cap);refine⟨.slice (some ⟨g,o,none⟩) 0 cap,?_,rfl,?_,aw' z.row (fun h F=>ah.rest h (World.ownsRow.lt z.row h F).2 (fun e=>(ao'.of_own z.row).ne z.blk (by decide) (by rw[F,e]))),?_⟩
   ·have:=af' (j:=1) (v:= .slice (some ⟨g,o,none⟩) 0 cap) z.blk;simpa using this
   ·have h0:=z.un.far ah (fun h F e=>z.un.ne z.blk (by decide) (by rw[F,e]));obtain⟨_,h2⟩:=h0;rcases h2 with ⟨h2,_⟩|⟨g',aI,aH,aR,aS,F,bd,be,aT,bf⟩
    ·cases h2
    ·cases aS;exact⟨by simp, .inr ⟨g,o,cap,aR,rfl,F,Nat.zero_le _,aG,aT,by simp⟩⟩
   ·exact(z.far.mono (fun _ _ h=> .inr h)).trans ah (fun _ _ h=> .inl h)
end Go.Proofs.YtamafdcnbcoegaaGreat
