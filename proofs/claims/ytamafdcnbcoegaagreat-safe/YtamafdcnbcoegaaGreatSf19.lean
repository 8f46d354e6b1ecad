/-
  Part 19 of a proof: SF2, SF3, CPY, N3, N4, N5, N6, SF4, SF7.
-/
import Derived.Test.YtamafdcnbcoegaaGreatSf18
set_option maxRecDepth 100000
set_option maxHeartbeats 40000000
namespace Go.Proofs.YtamafdcnbcoegaaGreat
open Go.RowKit
structure by' where
 va:Nat
 vs:Nat
 a:Mod.Ag
 da:Bool
 ua:Nat->Prop
 s:Mod.Sk
 ds:Bool
 us:Nat->Prop
 upv:Value
 up:List (Value×List UInt8)
 dnv:Value
 dn:List (Value×List UInt8)
 tv:Nat->Value
 T:Nat->List ByteArray
 made:Nat
 stream:Nat
 may:ByteArray
 seen:Nat->Nat
 fa:Bool
 fs:Bool
 ov:Value
 ol:List Value
 oF:List ByteArray
def bz' (N:by'):Array Value:= #[y' N.va,y' N.vs,N.upv,N.dnv,N.tv 0,N.tv 1,N.tv 2, .int .i64 N.made, .int .i64 N.stream, .string N.may, .int .i64 (N.seen 0:Nat), .int .i64 (N.seen 1:Nat), .int .i64 (N.seen 2:Nat), .bool N.fa, .bool N.fs]
def ll' (B K p:Nat) (N:by'):Nat->World->Prop
 |0=>fun w=>w.heap[p]? =some (.cells (bz' N) 100 (0,0))
 |1=>fun w=>AgE N.da w N.va N.a N.ua
 |2=>fun w=>SkE K N.ds w N.vs N.s N.us
 |3=>fun w=>w.ownsRow B 44 1 N.upv N.up.length (N.up.map (·.1))
 |4=>fun w=>w.ownsRow B 44 1 N.dnv N.dn.length (N.dn.map (·.1))
 |5=>fun w=>w.ownsRow B 9 1 (N.tv 0) (N.T 0).length (aK' (N.T 0))
 |6=>fun w=>w.ownsRow B 9 1 (N.tv 1) (N.T 1).length (aK' (N.T 1))
 |7=>fun w=>w.ownsRow B 9 1 (N.tv 2) (N.T 2).length (aK' (N.T 2))
 |8=>fun w=>∀f∈N.up++N.dn,as' B w f.1 f.2
 |9=>fun w=>L' B w N.ov N.ol N.oF (fun _=>False)
 | _=>fun _=>True
def db' (p:Nat) (N:by'):Nat->Nat->Prop
 |0=>fun k=>k=p
 |1=>N.ua
 |2=>N.us
 |3=>fun k=>N.upv.ownBlock=some k
 |4=>fun k=>N.dnv.ownBlock=some k
 |5=>fun k=>(N.tv 0).ownBlock=some k
 |6=>fun k=>(N.tv 1).ownBlock=some k
 |7=>fun k=>(N.tv 2).ownBlock=some k
 |8=>fun k=>∃f∈N.up++N.dn,f.1.ownBlock=some k
 |9=>fun k=>N.ov.ownBlock=some k\/oz' N.ol N.ol.length k
 | _=>fun _=>False
structure Net (B K p:Nat) (w:World) (N:by'):Prop where
 at_:∀i,ll' B K p N i w
 lt:∀i k,db' p N i k->B<=k/\k < w.heap.size
 ne:∀i j k,i≠j->db' p N i k->¬db' p N j k
section
variable {B K K' p:Nat} {w y:World} {N N':by'}
theorem ih' {E:Nat->Prop} {i:Nat} (h:ll' B K p N i w) (z:∀k,db' p N i k->k < w.heap.size) (r:Far E w y) (u:∀k,db' p N i k->¬E k):ll' B K p N i y:=by
 rcases i with _| _| _| _| _| _| _| _| _| _|i
 ·exact r.blk h (u p rfl)
 ·exact AgE.far h r u
 ·exact SkE.far h r u
 ·exact M' h (fun g f=>r.rest g (z g f) (u g f))
 ·exact M' h (fun g f=>r.rest g (z g f) (u g f))
 ·exact M' h (fun g f=>r.rest g (z g f) (u g f))
 ·exact M' h (fun g f=>r.rest g (z g f) (u g f))
 ·exact M' h (fun g f=>r.rest g (z g f) (u g f))
 ·exact fun D F=>M' (h D F) (fun g f=>r.rest g (z g ⟨D,F,f⟩) (u g ⟨D,F,f⟩))
 ·exact L'.keep h (fun k G=>r.rest k (z k G) (u k G))
 ·trivial
theorem Net.hB (f:Net B K p w N):B<=w.heap.size:=by
 have:=f.lt 0 p rfl;omega
theorem Net.many (f:Net B K p w N) (S:List Nat) (hF:Far (fun k=>∃i∈S,db' p N i k) w y) (u:∀j,j∉S->db' p N' j=db' p N j/\∀F,ll' B K p N j F->ll' B K' p N' j F)
  (G:∀i∈S,ll' B K' p N' i y) (D:∀i∈S,∀k,db' p N' i k->(db' p N i k\/w.heap.size<=k)/\k < y.heap.size) (H:∀i∈S,∀j∈S,∀k,i≠j->db' p N' i k->¬db' p N' j k):Net B K' p y N':=by
 have J:=f.hB;have M:=hF.size;refine⟨fun i=>?_,fun i k r=>?_,fun i j k z hi hj=>?_⟩
 ·by_cases hi:i∈S
  ·exact G i hi
  ·exact(u i hi).2 _ (ih' (f.at_ i) (fun k r=>(f.lt i k r).2) hF (fun k r=>by rintro⟨q,I,e⟩;exact f.ne i q k (fun e=>hi (e ▸ I)) r e))
 ·by_cases hi:i∈S
  ·obtain⟨h1|h1,h2⟩:=D i hi k r
   ·exact⟨(f.lt i k h1).1,h2⟩
   ·exact⟨by omega,h2⟩
  ·rw[(u i hi).1]at r;have:=f.lt i k r;omega
 ·by_cases h1:i∈S
  ·by_cases h2:j∈S
   ·exact H i h1 j h2 k z hi hj
   ·rw[(u j h2).1]at hj;rcases(D i h1 k hi).1 with e|e
    ·exact f.ne i j k z e hj
    ·have:=f.lt j k hj;omega
  ·rw[(u i h1).1]at hi;by_cases h2:j∈S
   ·rcases(D j h2 k hj).1 with e|e
    ·exact f.ne i j k z hi e
    ·have:=f.lt i k hi;omega
   ·rw[(u j h2).1]at hj;exact f.ne i j k z hi hj
theorem Net.below (f:Net B K p w N) (r:Below w.heap.size w y):Net B K p y N:=
 f.many [] (A' r) (fun _ _=>⟨rfl,fun _ h=>h⟩) (fun _ h=>by simp at h) (fun _ h=>by simp at h) (fun _ h=>by simp at h)
theorem Net.mono (f:Net B K p w N) (hK:K<=K'):Net B K' p w N:=
 f.many [] (Far.refl _ _) (fun j _=>⟨rfl,fun _ h=>by
  rcases j with _| _| _| _| _| _| _| _| _| _|j
  case succ.succ.zero=>exact SkE.mono h hK
  all_goals exact h⟩) (fun _ h=>by simp at h) (fun _ h=>by simp at h) (fun _ h=>by simp at h)
theorem Net.agent (z:Net B K p w N) {d:Bool} {a:Mod.Ag} {f:Nat->Prop} (r:AgE d y N.va a f) (hF:Far N.ua w y) (D:∀k,f k->N.ua k\/w.heap.size<=k):Net B K p y {N with a:=a,da:=d,ua:=f}:=
 z.many [1] (hF.mono (fun k _ h=>⟨1, .head _,h⟩)) (fun j hj=>by
  rcases j with _| _| _| _| _| _| _| _| _| _|j
  case succ.zero=>simp at hj
  all_goals exact⟨rfl,fun _ h=>h⟩)
  (fun i hi=>by simp at hi;subst hi;exact r)
  (fun i hi k u=>by simp at hi;subst hi;exact⟨D k u,r.lt k u⟩)
  (fun i hi j hj k F=>by simp at hi hj;omega)
theorem Net.sinkS (z:Net B K p w N) {d:Bool} {s:Mod.Sk} {f:Nat->Prop} (r:SkE K' d y N.vs s f) (hF:Far N.us w y) (D:∀k,f k->N.us k\/w.heap.size<=k):Net B K' p y {N with s:=s,ds:=d,us:=f}:=
 z.many [2] (hF.mono (fun k _ h=>⟨2, .head _,h⟩)) (fun j hj=>by
  rcases j with _| _| _| _| _| _| _| _| _| _|j
  case succ.succ.zero=>simp at hj
  all_goals exact⟨rfl,fun _ h=>h⟩)
  (fun i hi=>by simp at hi;subst hi;exact r)
  (fun i hi k u=>by simp at hi;subst hi;exact⟨D k u,r.lt k u⟩)
  (fun i hi j hj k F=>by simp at hi hj;omega)
theorem Net.agentO (z:Net B K p w N) {d:Bool} {a:Mod.Ag} {r:Nat->Prop} {lv:Value} {l:List Value} {D:List ByteArray} (f:L' w.heap.size y lv l D r) (F:AgE d y N.va a r) (hF:Far N.ua w y) (H:∀k,r k->N.ua k\/w.heap.size<=k):
  Net B K p y {N with a:=a,da:=d,ua:=r,ov:=lv,ol:=l,oF:=D}:=
 z.many [1,9] (hF.mono (fun k _ h=>⟨1, .head _,h⟩)) (fun j hj=>by
  rcases j with _| _| _| _| _| _| _| _| _| _|j
  case succ.zero=>simp at hj
  case succ.succ.succ.succ.succ.succ.succ.succ.succ.zero=>simp at hj
  all_goals exact⟨rfl,fun _ h=>h⟩)
  (fun i hi=>by
   simp at hi;rcases hi with rfl|rfl
   ·exact F
   ·exact f.off.up z.hB (fun _ e=>e.elim))
  (fun i hi k u=>by
   simp at hi;rcases hi with rfl|rfl
   ·exact⟨H k u,F.lt k u⟩
   ·exact⟨.inr (f.lt k u).1,(f.lt k u).2⟩)
  (fun i hi j hj k G h1 h2=>by
   simp at hi hj;rcases hi with rfl|rfl <;> rcases hj with rfl|rfl
   ·exact G rfl
   ·exact f.clear k h2 h1
   ·exact f.clear k h1 h2
   ·exact G rfl)
theorem Net.sinkO (z:Net B K p w N) {d:Bool} {s:Mod.Sk} {r:Nat->Prop} {lv:Value} {l:List Value} {D:List ByteArray} (f:L' w.heap.size y lv l D r) (F:SkE K' d y N.vs s r) (hF:Far N.us w y) (H:∀k,r k->N.us k\/w.heap.size<=k):
  Net B K' p y {N with s:=s,ds:=d,us:=r,ov:=lv,ol:=l,oF:=D}:=
 z.many [2,9] (hF.mono (fun k _ h=>⟨2, .head _,h⟩)) (fun j hj=>by
  rcases j with _| _| _| _| _| _| _| _| _| _|j
  case succ.succ.zero=>simp at hj
  case succ.succ.succ.succ.succ.succ.succ.succ.succ.zero=>simp at hj
  all_goals exact⟨rfl,fun _ h=>h⟩)
  (fun i hi=>by
   simp at hi;rcases hi with rfl|rfl
   ·exact F
   ·exact f.off.up z.hB (fun _ e=>e.elim))
  (fun i hi k u=>by
   simp at hi;rcases hi with rfl|rfl
   ·exact⟨H k u,F.lt k u⟩
   ·exact⟨.inr (f.lt k u).1,(f.lt k u).2⟩)
  (fun i hi j hj k G h1 h2=>by
   simp at hi hj;rcases hi with rfl|rfl <;> rcases hj with rfl|rfl
   ·exact G rfl
   ·exact f.clear k h2 h1
   ·exact f.clear k h1 h2
   ·exact G rfl)
theorem Net.store (f:Net B K p w N) {j:Nat} {v:Value} (z:bz' N'=(bz' N).setIfInBounds j v) (D:∀j,j≠0->db' p N' j=db' p N j/\∀u,ll' B K p N j u->ll' B K p N' j u):Net B K p (w.setCell ⟨p,j,none⟩ v) N':=
 f.many [0] ((O' w p j v).mono (fun k _ h=>⟨0, .head _,h⟩)) (fun j hj=>D j (by simpa using hj))
  (fun i hi=>by simp at hi;subst hi;have:=af' (j:=j) (v:=v) (f.at_ 0);rw[<-z]at this;exact this)
  (fun i hi k r=>by simp at hi;subst hi;have r:k=p:=r;subst r;exact⟨.inl rfl,by rw[World.size_setCell];exact(f.lt 0 k rfl).2⟩)
  (fun i hi j hj k F=>by simp at hi hj;omega)
theorem Net.cell (f:Net B K p w N) {j:Nat} {v:Value} (hj:(bz' N)[j]? =some v):w.cell? ⟨p,j,none⟩=some v:=by
 have:=m' (i:=j) (f.at_ 0);rw[hj]at this;exact this
theorem Net.put (z:Net B K p w N) {f:World} (S:List Nat) (h0:0∉S) (hF:Far (fun k=>∃i∈S,db' p N i k) w f) (J:∀j,j≠0->j∉S->db' p N' j=db' p N j/\∀f,ll' B K p N j f->ll' B K p N' j f)
  (M:∀i∈S,ll' B K p N' i f) (D:∀i∈S,∀k,db' p N' i k->(db' p N i k\/w.heap.size<=k)/\k < f.heap.size) (O:∀i∈S,∀j∈S,∀k,i≠j->db' p N' i k->¬db' p N' j k)
  {j:Nat} {v:Value} (Q:bz' N'=(bz' N).setIfInBounds j v):Net B K p (f.setCell ⟨p,j,none⟩ v) N':=by
 have F:∀i∈S,¬db' p N' i p:=fun i hi e=>by
  rcases(D i hi p e).1 with h|h
  ·exact z.ne 0 i p (fun e=>h0 (e ▸ hi)) rfl h
  ·have:=z.lt 0 p rfl;omega
 have G:=O' f p j v;have H:f.heap[p]? =some (.cells (bz' N) 100 (0,0)):=hF.blk (z.at_ 0) (fun⟨i,hi,e⟩=>z.ne 0 i p (fun e=>h0 (e ▸ hi)) rfl e);refine z.many (0::S) ((hF.mono (fun k _ ⟨i,hi,e⟩=>⟨i, .tail _ hi,e⟩)).trans (E:=fun k=>∃i∈0::S,db' p N i k) G (fun k _ e=>⟨0, .head _,e⟩)) (fun j hj=>J j (fun e=>hj (e ▸ .head _)) (fun h=>hj (.tail _ h))) ?_ ?_ ?_
 ·intro i hi;cases hi with
  |head=>have:=af' (j:=j) (v:=v) H;rw[<-Q]at this;exact this
  |tail _ hi=>exact ih' (M i hi) (fun k r=>(D i hi k r).2) G (fun k r e=>by have e:k=p:=e;subst e;exact F i hi r)
 ·intro i hi k r;rw[World.size_setCell];cases hi with
  |head=>have r:k=p:=r;subst r;exact⟨.inl rfl,lt_of_block H⟩
  |tail _ hi=>exact D i hi k r
 ·intro i hi q u k I h1 h2;cases hi with
  |head=>
   have h1:k=p:=h1;subst h1;cases u with
   |head=>exact I rfl
   |tail _ u=>exact F q u h2
  |tail _ hi=>
   cases u with
   |head=>have h2:k=p:=h2;subst h2;exact F i hi h1
   |tail _ u=>exact O i hi q u k I h1 h2
def by'.take (N:by') (s:Nat) (v:Value) (b:ByteArray):by':={N with tv:=fun t=>if t=s then v else N.tv t,T:=fun t=>if t=s then N.T s++[b]else N.T t}
theorem Net.take (z:Net B K p w N) {s:Nat} (hs:s < 3) {r:World} {v:Value} {b:ByteArray} (hF:Far (fun k=>(N.tv s).ownBlock=some k) w r) (u:r.ownsRow B 9 1 v ((N.T s).length+1) (aK' (N.T s)++[.string b]))
  (hl:∀k,v.ownBlock=some k->(N.tv s).ownBlock=some k\/w.heap.size<=k):Net B K p (r.setCell ⟨p,4+s,none⟩ v) (N.take s v b):=by
 have D:r.ownsRow B 9 1 v (N.T s++[b]).length (aK' (N.T s++[b])):=by rw[List.length_append,show aK' (N.T s++[b])=aK' (N.T s)++[.string b] by simp[aK']];exact u
 obtain rfl|rfl|rfl:s=0\/s=1\/s=2:=by omega
 ·refine z.put [5] (by simp) (hF.mono (fun k _ e=>⟨5, .head _,e⟩)) (fun j h0 hj=>?_) (fun i hi=>?_) (fun i hi k f=>?_) (fun i hi j hj k F=>by simp at hi hj;omega) rfl
  ·rcases j with _| _| _| _| _| _| _| _| _| _|j
   case succ.succ.succ.succ.succ.zero=>simp at hj
   all_goals first|exact⟨rfl,fun _ h=>h⟩|exact absurd rfl h0
  ·simp at hi;subst hi;exact D
  ·simp at hi;subst hi;exact⟨hl k f,(World.ownsRow.lt u k f).2⟩
 ·refine z.put [6] (by simp) (hF.mono (fun k _ e=>⟨6, .head _,e⟩)) (fun j h0 hj=>?_) (fun i hi=>?_) (fun i hi k f=>?_) (fun i hi j hj k F=>by simp at hi hj;omega) rfl
  ·rcases j with _| _| _| _| _| _| _| _| _| _|j
   case succ.succ.succ.succ.succ.succ.zero=>simp at hj
   all_goals first|exact⟨rfl,fun _ h=>h⟩|exact absurd rfl h0
  ·simp at hi;subst hi;exact D
  ·simp at hi;subst hi;exact⟨hl k f,(World.ownsRow.lt u k f).2⟩
 ·refine z.put [7] (by simp) (hF.mono (fun k _ e=>⟨7, .head _,e⟩)) (fun j h0 hj=>?_) (fun i hi=>?_) (fun i hi k f=>?_) (fun i hi j hj k F=>by simp at hi hj;omega) rfl
  ·rcases j with _| _| _| _| _| _| _| _| _| _|j
   case succ.succ.succ.succ.succ.succ.succ.zero=>simp at hj
   all_goals first|exact⟨rfl,fun _ h=>h⟩|exact absurd rfl h0
  ·simp at hi;subst hi;exact D
  ·simp at hi;subst hi;exact⟨hl k f,(World.ownsRow.lt u k f).2⟩
def by'.pushU (N:by') (v f:Value) (l:List UInt8):by':={N with upv:=v,up:=N.up++[(f,l)]}
def by'.pushD (N:by') (v f:Value) (l:List UInt8):by':={N with dnv:=v,dn:=N.dn++[(f,l)]}
theorem rk' {x:Value×List UInt8} {A C:List (Value×List UInt8)} {f:Value×List UInt8} (h:f∈ (A++[x])++C):f=x\/f∈A++C:=by
 simp only[List.mem_append,List.mem_singleton]at h ⊢;rcases h with (h|h)|h
 ·exact .inr (.inl h)
 ·exact .inl h
 ·exact .inr (.inr h)
theorem rl' {x:Value×List UInt8} {A C:List (Value×List UInt8)} {f:Value×List UInt8} (h:f∈A++(C++[x])):f=x\/f∈A++C:=by
 simp only[List.mem_append,List.mem_singleton]at h ⊢;rcases h with h|h|h
 ·exact .inr (.inl h)
 ·exact .inr (.inr h)
 ·exact .inl h
theorem Net.pushU (u:Net B K p w N) {D:World} {v F:Value} {l:List UInt8} (hF:Far (fun k=>N.upv.ownBlock=some k) w D) (G:D.ownsRow B 44 1 v (N.up.length+1) (N.up.map (·.1)++[F]))
  (hl:∀k,v.ownBlock=some k->N.upv.ownBlock=some k\/w.heap.size<=k) (H:as' w.heap.size D F l):Net B K p (D.setCell ⟨p,2,none⟩ v) (N.pushU v F l):=by
 have I:=H.lt;refine u.put [3,8] (by simp) (hF.mono (fun k _ e=>⟨3, .head _,e⟩)) (fun j h0 hj=>?_) (fun i hi=>?_) (fun i hi k z=>?_) (fun i hi j hj k J h1 h2=>?_) rfl
 ·rcases j with _| _| _| _| _| _| _| _| _| _|j
  case succ.succ.succ.zero=>simp at hj
  case succ.succ.succ.succ.succ.succ.succ.succ.zero=>simp at hj
  all_goals first|exact⟨rfl,fun _ h=>h⟩|exact absurd rfl h0
 ·simp at hi;rcases hi with rfl|rfl
  ·show D.ownsRow B 44 1 v (N.up++[(F,l)]).length ((N.up++[(F,l)]).map (·.1));rw[List.length_append,List.map_append];exact G
  ·intro r f;rcases rk' f with rfl|f
   ·exact H.mono u.hB
   ·exact ih' (u.at_ 8) (fun k z=>(u.lt 8 k z).2) hF (fun k z e=>u.ne 3 8 k (by decide) e z) r f
 ·simp at hi;rcases hi with rfl|rfl
  ·exact⟨hl k z,(World.ownsRow.lt G k z).2⟩
  ·obtain⟨r,f,e⟩:=z;rcases rk' f with rfl|f
   ·exact⟨.inr (I k e).1,(I k e).2⟩
   ·have:=(u.lt 8 k ⟨r,f,e⟩).2;have:=hF.size;exact⟨.inl ⟨r,f,e⟩,by omega⟩
 ·have key:∀k,v.ownBlock=some k->¬ ∃r∈ (N.up++[(F,l)])++N.dn,r.1.ownBlock=some k:=by
   rintro k h1 ⟨r,f,e⟩;rcases rk' f with rfl|f
   ·obtain⟨c1,M⟩:∃c,D.heap[k]? =some (.cells c 44 (0,0)):=by
     rcases G.2 with ⟨rfl,_⟩|⟨g,cap,Q,rfl,_,O,_⟩
     ·cases h1
     ·injection h1 with h1;subst h1;exact⟨_,O⟩
    exact(al' H).ne M (by decide) e
   ·rcases hl k h1 with h3|h3
    ·exact u.ne 3 8 k (by decide) h3 ⟨r,f,e⟩
    ·have:=(u.lt 8 k ⟨r,f,e⟩).2;omega
  simp at hi hj;rcases hi with rfl|rfl <;> rcases hj with rfl|rfl
  ·exact J rfl
  ·exact key k h1 h2
  ·exact key k h2 h1
  ·exact J rfl
theorem Net.pushD (u:Net B K p w N) {D:World} {v F:Value} {l:List UInt8} (hF:Far (fun k=>N.dnv.ownBlock=some k) w D) (G:D.ownsRow B 44 1 v (N.dn.length+1) (N.dn.map (·.1)++[F]))
  (hl:∀k,v.ownBlock=some k->N.dnv.ownBlock=some k\/w.heap.size<=k) (H:as' w.heap.size D F l):Net B K p (D.setCell ⟨p,3,none⟩ v) (N.pushD v F l):=by
 have I:=H.lt;refine u.put [4,8] (by simp) (hF.mono (fun k _ e=>⟨4, .head _,e⟩)) (fun j h0 hj=>?_) (fun i hi=>?_) (fun i hi k z=>?_) (fun i hi j hj k J h1 h2=>?_) rfl
 ·rcases j with _| _| _| _| _| _| _| _| _| _|j
  case succ.succ.succ.succ.zero=>simp at hj
  case succ.succ.succ.succ.succ.succ.succ.succ.zero=>simp at hj
  all_goals first|exact⟨rfl,fun _ h=>h⟩|exact absurd rfl h0
 ·simp at hi;rcases hi with rfl|rfl
  ·show D.ownsRow B 44 1 v (N.dn++[(F,l)]).length ((N.dn++[(F,l)]).map (·.1));rw[List.length_append,List.map_append];exact G
  ·intro r f;rcases rl' f with rfl|f
   ·exact H.mono u.hB
   ·exact ih' (u.at_ 8) (fun k z=>(u.lt 8 k z).2) hF (fun k z e=>u.ne 4 8 k (by decide) e z) r f
 ·simp at hi;rcases hi with rfl|rfl
  ·exact⟨hl k z,(World.ownsRow.lt G k z).2⟩
  ·obtain⟨r,f,e⟩:=z;rcases rl' f with rfl|f
   ·exact⟨.inr (I k e).1,(I k e).2⟩
   ·have:=(u.lt 8 k ⟨r,f,e⟩).2;have:=hF.size;exact⟨.inl ⟨r,f,e⟩,by omega⟩
 ·have key:∀k,v.ownBlock=some k->¬ ∃r∈N.up++(N.dn++[(F,l)]),r.1.ownBlock=some k:=by
   rintro k h1 ⟨r,f,e⟩;rcases rl' f with rfl|f
   ·obtain⟨c1,M⟩:∃c,D.heap[k]? =some (.cells c 44 (0,0)):=by
     rcases G.2 with ⟨rfl,_⟩|⟨g,cap,Q,rfl,_,O,_⟩
     ·cases h1
     ·injection h1 with h1;subst h1;exact⟨_,O⟩
    exact(al' H).ne M (by decide) e
   ·rcases hl k h1 with h3|h3
    ·exact u.ne 4 8 k (by decide) h3 ⟨r,f,e⟩
    ·have:=(u.lt 8 k ⟨r,f,e⟩).2;omega
  simp at hi hj;rcases hi with rfl|rfl <;> rcases hj with rfl|rfl
  ·exact J rfl
  ·exact key k h1 h2
  ·exact key k h2 h1
  ·exact J rfl
theorem Net.newA (D:Net B K p w N) {f:World} {va:Nat} {a:Mod.Ag} {r:Nat->Prop} (F:Below w.heap.size w f) (u:AgE false f va a r) (G:∀k,r k->w.heap.size<=k):Net B K p (f.setCell ⟨p,0,none⟩ (y' va)) {N with va:=va,a:=a,da:=false,ua:=r}:=by
 refine D.put [1] (by simp) (A' F) (fun j h0 hj=>?_) (fun i hi=>?_) (fun i hi k z=>?_) (fun i hi j hj k H=>by simp at hi hj;omega) rfl
 ·rcases j with _| _| _| _| _| _| _| _| _| _|j
  case succ.zero=>simp at hj
  all_goals first|exact⟨rfl,fun _ h=>h⟩|exact absurd rfl h0
 ·simp at hi;subst hi;exact u
 ·simp at hi;subst hi;exact⟨.inr (G k z),u.lt k z⟩
theorem Net.newS (D:Net B K p w N) {f:World} {vs:Nat} {s:Mod.Sk} {r:Nat->Prop} (F:Below w.heap.size w f) (u:SkE K false f vs s r) (G:∀k,r k->w.heap.size<=k):Net B K p (f.setCell ⟨p,1,none⟩ (y' vs)) {N with vs:=vs,s:=s,ds:=false,us:=r}:=by
 refine D.put [2] (by simp) (A' F) (fun j h0 hj=>?_) (fun i hi=>?_) (fun i hi k z=>?_) (fun i hi j hj k H=>by simp at hi hj;omega) rfl
 ·rcases j with _| _| _| _| _| _| _| _| _| _|j
  case succ.succ.zero=>simp at hj
  all_goals first|exact⟨rfl,fun _ h=>h⟩|exact absurd rfl h0
 ·simp at hi;subst hi;exact u
 ·simp at hi;subst hi;exact⟨.inr (G k z),u.lt k z⟩
end
structure Pl where
 a:Mod.Ag
 da:Bool
 s:Mod.Sk
 ds:Bool
 up:List (List UInt8)
 dn:List (List UInt8)
 T:Nat->List ByteArray
 made:Nat
 stream:Nat
 may:ByteArray
 seen:Nat->Nat
 fa:Bool
 fs:Bool
def by'.pl (N:by'):Pl:=⟨N.a,N.da,N.s,N.ds,N.up.map (·.2),N.dn.map (·.2),N.T,N.made,N.stream,N.may,N.seen,N.fa,N.fs⟩
def cb' (B K p:Nat) (w:World) (P:Pl):Prop:=∃N,Net B K p w N/\N.pl=P
structure dN' (b:Nat) (P:Pl):Prop where
 ag:aH' b P.a
 sk:ay' P.s
 ep:P.a.epoch<=b+1
 made:P.made<=b
 room:(P.T 0).length+(P.T 1).length+(P.T 2).length<=100
 up:P.up.length<=12 * b
 dn:P.dn.length<=12 * b
 upl:∀l∈P.up,0 < l.length/\l.length<=1000
 dnl:∀l∈P.dn,0 < l.length/\l.length<=1000
 lim:b<=10000000
theorem Net.put1 {B K p:Nat} {w:World} {N:by'} (f:Net B K p w N) (made stream:Nat) (may:ByteArray) (seen:Nat->Nat) (fa fs:Bool) {j:Nat} {v:Value} (r:bz' {N with made:=made,stream:=stream,may:=may,seen:=seen,fa:=fa,fs:=fs}=(bz' N).setIfInBounds j v):
  Net B K p (w.setCell ⟨p,j,none⟩ v) {N with made:=made,stream:=stream,may:=may,seen:=seen,fa:=fa,fs:=fs}:=
 f.store r (fun j hj=>by rcases j with _| _| _| _| _| _| _| _| _| _|j;all_goals first|exact absurd rfl hj|exact⟨rfl,fun _ h=>h⟩)
def taP (P:Pl) (e:Int) (f:Bool) (a':Mod.Ag):Bool×Pl:=
 if e=4 then(true,{P with a:=a',da:=f,fa:=true})else(decide (e=0) ||P.fa&&decide (e=3),{P with a:=a',da:=f})
def TaR (l:List UInt8) (P:Pl) (v:Value) (r:Pl):Prop:=∃ (e:Int) (f:Bool) (a':Mod.Ag),uk' l P.da P.a e f a'/\v= .bool (taP P e f a').1/\r=(taP P e f a').2
def dO' (B K p:Nat) (w:World) (R:Value->Pl->Prop) (r:Ending) (w':World):Prop:=∃v f,r= .returned v/\R v f/\cb' B K p w' f/\Far (fun k=>B<=k) w w'
theorem pQ' {B K p b:Nat} {w:World} {P:Pl} (f:cb' B K p w P) (H:dN' b P) (bs:Value) (l:List UInt8) (I:Y' w bs l):
  Calls Tryz.prog 71 #[.pointer (some ⟨p,0,none⟩),bs] w (dO' B K p w (TaR l P)):=by
 obtain⟨N,f,rfl⟩:=f;have c0:=f.cell (j:=0) rfl;have J:AgE N.da w N.va N.a N.ua:=f.at_ 1;have Q:=t' (J.deliver bs l H.ag (by have:=H.lim;omega) I);have M:=t' f;have U:=t' (fun k V=>(f.lt 1 k V).1);have X:=t' (f.lt 0 p rfl).1;clear f J H I;go_enter Tryz.func71,Tryz.ntmps71;go_upto_region 2 with (go_at_call 28;refine(i' Q).mono ?_;rintro Y x ⟨e,u,a',U',rfl,k1,k2,k3,k4⟩;have G:=(i' M).agent k1 k2 k3;have z:Far (fun k=>B<=k) w x:=k2.mono (fun k _ h=>(i' U) k h);clear k1 k2 k3;replace k4:=t' k4;replace z:=t' z);have O:=G.cell (j:=13) rfl;have Z:=D' (i:=13) (G.at_ 0);have D:=t' G;clear G c0 M;by_cases h4:e=4
 ·subst h4;go_wp2;go_ret;exact⟨_,_,rfl,⟨4,u,a',i' k4,rfl,rfl⟩,⟨_,(i' D).put1 N.made N.stream N.may N.seen true N.fs rfl,rfl⟩,(i' z).trans (O' _ _ _ _) (fun k _ e=>by have e:k=p:=e;subst e;exact i' X)⟩
 ·have r:(taP N.pl e u a')=(decide (e=0) ||N.fa&&decide (e=3),{N.pl with a:=a',da:=u}):=by unfold taP;rw[if_neg h4];rfl
  by_cases h0:e=0
  ·subst h0;go_wp2;go_ret;exact⟨_,_,rfl,⟨0,u,a',i' k4,by rw[r];simp,rfl⟩,⟨_,i' D,by rw[r];rfl⟩,i' z⟩
  ·cases F:N.fa
   ·simp only[bz',F]at O;go_wp2;go_ret;exact⟨_,_,rfl,⟨e,u,a',i' k4,by rw[r,F];simp[h0],rfl⟩,⟨_,i' D,by rw[r];rfl⟩,i' z⟩
   ·simp only[bz',F]at O;by_cases h3:e=3
    ·subst h3;go_wp2;go_ret;exact⟨_,_,rfl,⟨3,u,a',i' k4,by rw[r,F];simp,rfl⟩,⟨_,i' D,by rw[r];rfl⟩,i' z⟩
    ·go_wp2;go_ret;exact⟨_,_,rfl,⟨e,u,a',i' k4,by rw[r,F];simp[h0,h3],rfl⟩,⟨_,i' D,by rw[r];rfl⟩,i' z⟩
theorem lm' (v:Value) (l:List UInt8) (w:World) (r:Y' w v l) (hl:0 < l.length) (G:l.length<=281474976710656):
  Calls Tryz.prog 112 #[v] w fun H w'=>∃u,H= .returned u/\as' w.heap.size w' u l/\Below w.heap.size w w':=by
 have z:=t' r;obtain⟨Y,cap,rfl,Z,aa,I⟩:=r;clear I;go_enter Tryz.func112,Tryz.ntmps112;go_upto_region 2 with (at_make;refine dj' rfl _ _ rfl w.heap.size _ _ _ _ l.length rfl rfl rfl rfl G (Nat.le_refl _) ?_;intro ab D F);have f:=X' (B:=w.heap.size) F (Nat.le_refl _) (by simp);have J:=t' ((i' z).below f);have M:=t' D;have O:=f.size;clear D F z;go_wp2_with (refine lD' rfl (.tmp 7) (.tmp 8) rfl w.heap.size w.heap.size l.length _ l _ (i' M) rfl (i' J) hl rfl ?_;intro ac Q U);have V:=X' (B:=w.heap.size) U O (by intro k X;cases X;exact Nat.le_refl _);go_ret;exact⟨_,rfl,Q,f.trans V⟩
def cI':Mod.Ag×Bool->List ByteArray->Mod.Ag×Bool
 |s,[]=>s
 |s,b::f=>cI' ((aI' s.1 b.data.toList).2,s.2&& ((aI' s.1 b.data.toList).1==0)) f
def eg':Mod.Ag×Mod.Sk×Bool->List (List UInt8)->Mod.Ag×Mod.Sk×Bool
 |s,[]=>s
 |s,l::f=>eg' ((cI' (s.1,s.2.2&& ((av' s.2.1 l).1==0)) (av' s.2.1 l).2.2).1,(av' s.2.1 l).2.1,(cI' (s.1,s.2.2&& ((av' s.2.1 l).1==0)) (av' s.2.1 l).2.2).2) f
def fL' (a:Mod.Ag) (k:Mod.Sk):Mod.Ag×Mod.Sk×Bool:=eg' (a.tick.1,k,true) a.tick.2
theorem ln' (s:Mod.Ag×Bool) (l:List ByteArray) (b:ByteArray):cI' s (l++[b])=((aI' (cI' s l).1 b.data.toList).2,(cI' s l).2&& ((aI' (cI' s l).1 b.data.toList).1==0)):=by
 induction l generalizing s with
 |nil=>rfl
 |cons x f ih=>exact ih _
theorem rm' (s:Mod.Ag×Mod.Sk×Bool) (l:List (List UInt8)) (b:List UInt8):eg' s (l++[b])=eg' (eg' s l) [b]:=by
 induction l generalizing s with
 |nil=>rfl
 |cons x f ih=>exact ih _
theorem L'.get {B:Nat} {w:World} {lv:Value} {fs:List Value} {f:List ByteArray} {u:Nat->Prop} (h:L' B w lv fs f u) (i:Nat) (hi:i < f.length):∃v,fs[i]? =some v/\as' B w v f[i].data.toList:=by
 have hl:=h.len;have r:i < fs.length:=by omega
 refine⟨fs[i],List.getElem?_eq_getElem r,?_⟩;have:=h.each i fs[i] (List.getElem?_eq_getElem r);rw[List.getD_eq_getElem?_getD,List.getElem?_map,List.getElem?_eq_getElem hi]at this;exact this
theorem nT' {bb:Nat} (C:dD' bb) (aj:hu') (B N:Nat) (x:World) (va vs:Nat) (a:Mod.Ag) (k:Mod.Sk) (O:Nat->Prop) (ak:bU' C aj B N x va vs a k O) (bc:N+1 < bb):
  Calls Tryz.prog 31 #[y' va,y' vs] x fun ah y=>ah= .returned (.tuple #[.int .i64 a.tick.2.length, .bool (fL' a k).2.2])/\bU' C aj B (N+1) y va vs (fL' a k).1 (fL' a k).2.1 O/\eU' B O x y:=by
 have aL:=t' (ak.tick (by omega));have bq:=(kX' ak.ga).1;have bS:=t' ak.bx;have bT:=t' (fun j (hj:O j)=>(ak.all.elim fun _ h=>h.elim fun _ h=>(h.2.2.2.2.2 j hj).1));have bd:fL' a k=eg' (a.tick.1,k,true) a.tick.2:=rfl;rw[bd];obtain⟨u,be⟩:∃u,u=a.tick.2:=⟨_,rfl⟩;rw[<-be]at aL bq ⊢;generalize a.tick.1=a1 at aL ⊢;clear ak bd be;unfold y' at *;go_enter Tryz.func31,Tryz.ntmps31;go_upto_region 2 with (go_at_call 24;refine(i' aL).mono ?_;rintro ah y ⟨lv,fs,rfl,k1,k2,k3⟩;obtain⟨bf,cap,e,_⟩:=(al' k1.row).shape;rw[show fs.length=u.length by rw[k1.len];simp]at e;subst e;have bU:=k3.size;have aM:=t' k1;have br:=t' k2;have bt:=t' k3;clear k1 k2 k3);go_wp2;go_loopw[7,8,9,10,11,12] (fun ok i _ _ _ _ wr=>∃j:Nat,j<=u.length/\i= .int .i64 j/\ok= .bool (eg' (a1,k,true) (u.take j)).2.2/\bU' C aj B (N+1) wr va vs (eg' (a1,k,true) (u.take j)).1 (eg' (a1,k,true) (u.take j)).2.1 (fun q=>O q\/jD' (.slice bf u.length cap) fs q)/\eU' B (fun q=>O q\/jD' (.slice bf u.length cap) fs q) y wr) (fun _ i _ _ _ _ _=>u.length - (intOf i).toNat)
 case atStart=>exact⟨0,by omega,rfl,rfl,i' br,eU'.refl _ _ _⟩
 case round=>
  obtain⟨j,hj,rfl,rfl,ao,aG⟩:=hrel;obtain⟨G,H,ap,aN⟩:∃a bu o,eg' (a1,k,true) (u.take j)=(a,bu,o):=⟨_,_,_,rfl⟩;rw[aN]at ao ⊢;by_cases aO:j < u.length
  ·have aP:=(i' aM).keep (fun q Y=>aG.rest q ((i' aM).lt q Y).2 (fun e=>e.2 (.inr Y)));obtain⟨v,bg,aq⟩:=aP.get j (by simpa using aO);simp only[List.getElem_map]at aq;have bw:fs.length=u.length:=by rw[(i' aM).len];simp
   have aH:=aP.row;rw[bw]at aH;have h0:0 < u.length:=by omega
   obtain⟨g,c2,aQ⟩:=gy' aH h0;injection aQ with aQ _ bz;subst aQ;subst bz;have aI:=World.ownsRow.cellAt aH j (by omega);rw[bg]at aI;obtain⟨bV,bW,bA,_⟩:=(al' aq).shape;rw[bA]at aI aq;obtain⟨bh,bX⟩:∃bh,bh=u[j].length:=⟨_,rfl⟩;have z:Hid (eg' (a1,k,true) (u.take (j+1))=eg' (G,H,ap) [u[j]]):=by show _= _;rw[List.take_add_one,List.getElem?_eq_getElem aO];show eg' _ (u.take j++[u[j]])= _;rw[rm',aN]
   have bi:=as'.at aq;have Z:=t' (ao.take _ u[j] (by simpa using bi));have bj:eg' (G,H,ap) [u[j]]=((cI' (G,ap&& ((av' H u[j]).1==0)) (av' H u[j]).2.2).1,(av' H u[j]).2.1,(cI' (G,ap&& ((av' H u[j]).1==0)) (av' H u[j]).2.2).2):=rfl;rw[bj]at z;clear bj bi aq bg aH;have bB:(av' H u[j]).2.2.length<=1:=(hD' H u[j]).1;generalize (av' H u[j]).2.1=k2 at Z z;generalize (av' H u[j]).1=bC at Z z;generalize (av' H u[j]).2.2=r at Z z bB;have bk:=t' ao;have aJ:=t' aG;have aR:=t' aP;have bY:=(World.ownsRow.lt (i' aR).row g rfl).2;have aK:=t' (And.intro aO hj);have bl:(j:Int) < (u.length:Int):=by omega
   have bm:(0:Int)<=(j:Int):=by omega
   have bZ:u.length<=cap:=by
    rcases(i' aR).row.2 with ⟨h,_⟩|⟨g',bn,bo,h,_,_,h2,_⟩
    ·cases h
    ·injection h with _ _ h3;have:=(i' aR).len;simp at this;omega
   unfold y' at Z;generalize bp:u[j].length=fl at *;have ca:=t' bp;clear bp;cases ap with
   |false=>
    go_upto_region 7 with (go_at_call 27;refine(i' Z).mono ?_;rintro ah aS ⟨bD,au,rfl,k1,k2,k3⟩;obtain⟨av,aa,e,_⟩:=(al' k1.row).shape;rw[k1.len]at e;subst e;have bE:=k3.size;have ab:=t' k1;have aT:=t' k2;have aU:=t' k3;clear k1 k2 k3)
    go_upto_region 8 with fail
    simp only[Bool.false_and]at z;clear Z aI bl bm;go_wp2;go_loopw[7,11,12] (fun ok i2 _ wr2=>∃f:Nat,f<=r.length/\i2= .int .i64 f/\ok= .bool (cI' (G,false) (r.take f)).2/\bU' C aj B (N+1) wr2 va vs (cI' (G,false) (r.take f)).1 k2 (fun q=>(O q\/jD' (.slice (some ⟨g,0,none⟩) u.length cap) fs q)\/jD' (.slice av r.length aa) au q)/\eU' B (fun q=>(O q\/jD' (.slice (some ⟨g,0,none⟩) u.length cap) fs q)\/jD' (.slice av r.length aa) au q) aS wr2) (fun _ i2 _ _=>r.length - (intOf i2).toNat)
    case atStart=>exact⟨0,by omega,rfl,rfl,i' aT,eU'.refl _ _ _⟩
    case round=>
     obtain⟨f,bF,rfl,rfl,D,I⟩:=hrel;obtain⟨Q,ax,F⟩:∃a o,cI' (G,false) (r.take f)=(a,o):=⟨_,_,rfl⟩;rw[F]at D ⊢;by_cases ay:f < r.length
     ·have J:=(i' ab).keep (fun q Y=>I.rest q ((i' ab).lt q Y).2 (fun e=>e.2 (.inr Y)));obtain⟨bG,az,U⟩:=J.get f ay;have aA:=(i' ab).len;have V:=J.row;rw[aA]at V;have aV:0 < r.length:=by omega
      obtain⟨g2,c3,ac⟩:=gy' V aV;injection ac with ac _ aW;subst ac;subst aW;have aB:=World.ownsRow.cellAt V f (by omega);rw[az]at aB;obtain⟨bH,bI,aC,_⟩:=(al' U).shape;rw[aC]at aB U;have M:Hid (cI' (G,false) (r.take (f+1))=((aI' Q r[f].data.toList).2,ax&& ((aI' Q r[f].data.toList).1==0))):=by show _= _;rw[List.take_add_one,List.getElem?_eq_getElem ay];show cI' _ (r.take f++[r[f]])= _;rw[ln',F]
      have aD:=as'.at U;have X:=t' (D.hear bc _ r[f].data.toList aD);generalize (aI' Q r[f].data.toList).2=a3 at X M;generalize (aI' Q r[f].data.toList).1=bJ at X M;have bK:=(World.ownsRow.lt J.row g2 rfl).2;have bL:r.length<=aa:=by
       rcases J.row.2 with ⟨h,_⟩|⟨g',bn,bo,h,_,_,h2,_⟩
       ·cases h
       ·injection h with _ _ h3;omega
      have bM:(f:Int) < (r.length:Int):=by omega
      have bN:(0:Int)<=(f:Int):=by omega
      have aE:=t' D;have ad:=t' I;clear aD U az V D I J F aC aA;unfold y' at X;generalize aF:r[f].data.toList.length=bO at *;have bP:=t' aF;clear aF;cases ax;all_goals
       go_upto_region 12 with (go_at_call 28;refine(i' X).mono ?_;rintro ah bQ ⟨rfl,k1,k2⟩;have aX:=t' k1;have aY:=t' k2;clear k1 k2)
       simp only[Bool.false_and,Bool.true_and]at M;go_wp2;go_roundw
       case rel=>exact⟨f+1,by omega,by go_num,by rw[i' M],by rw[i' M];exact i' aX,(i' ad).trans (i' aY) (fun _ _ h=>h)⟩
       case measure=>simp[intOf];omega
     ·have aZ:f=r.length:=by omega
      subst aZ;rw[List.take_length]at F;rw[F]at z;have aE:=t' D;have ad:=t' I;clear D I F;go_wp2;go_roundw
      case rel=>refine⟨j+1,by have:=(i' aK).1;omega,by go_num,by rw[i' z],by rw[i' z];exact(i' aE).mono (fun q h=> .inl h) (Nat.le_refl _),?_⟩;exact((i' aJ).trans (i' aU) (fun _ _ h=>h)).trans (i' ad) (fun _ _ h=> .inl h)
      case measure=>have:=(i' aK).1;simp[intOf];omega
   |true=>
    go_upto_region 7 with (go_at_call 27;refine(i' Z).mono ?_;rintro ah aS ⟨bD,au,rfl,k1,k2,k3⟩;obtain⟨av,aa,e,_⟩:=(al' k1.row).shape;rw[k1.len]at e;subst e;have bE:=k3.size;have ab:=t' k1;have aT:=t' k2;have aU:=t' k3;clear k1 k2 k3)
    go_upto_region 8 with fail
    simp only[Bool.true_and]at z;obtain⟨ai,ba⟩:∃ai,ai=(bC==0):=⟨_,rfl⟩;rw[<-ba]at z;rw[<-ba];clear ba;clear Z aI bl bm;go_wp2;go_loopw[7,11,12] (fun ok i2 _ wr2=>∃f:Nat,f<=r.length/\i2= .int .i64 f/\ok= .bool (cI' (G,ai) (r.take f)).2/\bU' C aj B (N+1) wr2 va vs (cI' (G,ai) (r.take f)).1 k2 (fun q=>(O q\/jD' (.slice (some ⟨g,0,none⟩) u.length cap) fs q)\/jD' (.slice av r.length aa) au q)/\eU' B (fun q=>(O q\/jD' (.slice (some ⟨g,0,none⟩) u.length cap) fs q)\/jD' (.slice av r.length aa) au q) aS wr2) (fun _ i2 _ _=>r.length - (intOf i2).toNat)
    case atStart=>exact⟨0,by omega,rfl,rfl,i' aT,eU'.refl _ _ _⟩
    case round=>
     obtain⟨f,bF,rfl,rfl,D,I⟩:=hrel;obtain⟨Q,ax,F⟩:∃a o,cI' (G,ai) (r.take f)=(a,o):=⟨_,_,rfl⟩;rw[F]at D ⊢;by_cases ay:f < r.length
     ·have J:=(i' ab).keep (fun q Y=>I.rest q ((i' ab).lt q Y).2 (fun e=>e.2 (.inr Y)));obtain⟨bG,az,U⟩:=J.get f ay;have aA:=(i' ab).len;have V:=J.row;rw[aA]at V;have aV:0 < r.length:=by omega
      obtain⟨g2,c3,ac⟩:=gy' V aV;injection ac with ac _ aW;subst ac;subst aW;have aB:=World.ownsRow.cellAt V f (by omega);rw[az]at aB;obtain⟨bH,bI,aC,_⟩:=(al' U).shape;rw[aC]at aB U;have M:Hid (cI' (G,ai) (r.take (f+1))=((aI' Q r[f].data.toList).2,ax&& ((aI' Q r[f].data.toList).1==0))):=by show _= _;rw[List.take_add_one,List.getElem?_eq_getElem ay];show cI' _ (r.take f++[r[f]])= _;rw[ln',F]
      have aD:=as'.at U;have X:=t' (D.hear bc _ r[f].data.toList aD);generalize (aI' Q r[f].data.toList).2=a3 at X M;generalize (aI' Q r[f].data.toList).1=bJ at X M;have bK:=(World.ownsRow.lt J.row g2 rfl).2;have bL:r.length<=aa:=by
       rcases J.row.2 with ⟨h,_⟩|⟨g',bn,bo,h,_,_,h2,_⟩
       ·cases h
       ·injection h with _ _ h3;omega
      have bM:(f:Int) < (r.length:Int):=by omega
      have bN:(0:Int)<=(f:Int):=by omega
      have aE:=t' D;have ad:=t' I;clear aD U az V D I J F aC aA;unfold y' at X;generalize aF:r[f].data.toList.length=bO at *;have bP:=t' aF;clear aF;cases ax;all_goals
       go_upto_region 12 with (go_at_call 28;refine(i' X).mono ?_;rintro ah bQ ⟨rfl,k1,k2⟩;have aX:=t' k1;have aY:=t' k2;clear k1 k2)
       simp only[Bool.false_and,Bool.true_and]at M;go_wp2;go_roundw
       case rel=>exact⟨f+1,by omega,by go_num,by rw[i' M],by rw[i' M];exact i' aX,(i' ad).trans (i' aY) (fun _ _ h=>h)⟩
       case measure=>simp[intOf];omega
     ·have aZ:f=r.length:=by omega
      subst aZ;rw[List.take_length]at F;rw[F]at z;have aE:=t' D;have ad:=t' I;clear D I F;go_wp2;go_roundw
      case rel=>refine⟨j+1,by have:=(i' aK).1;omega,by go_num,by rw[i' z],by rw[i' z];exact(i' aE).mono (fun q h=> .inl h) (Nat.le_refl _),?_⟩;exact((i' aJ).trans (i' aU) (fun _ _ h=>h)).trans (i' ad) (fun _ _ h=> .inl h)
      case measure=>have:=(i' aK).1;simp[intOf];omega
  ·have bR:j=u.length:=by omega
   subst bR;rw[List.take_length]at aN;have bk:=t' ao;have aJ:=t' aG;clear ao aG;go_wp2;go_ret2;exact⟨rfl,(i' bk).mono (fun q h=> .inl h) (Nat.le_refl _),(i' bt).trans (i' aJ) (fun _ _ h=> .inl h)⟩
end Go.Proofs.YtamafdcnbcoegaaGreat
namespace Go.Proofs.YtamafdcnbcoegaaGreat
theorem pR' (e:Nat):Wire.bytes 1 e 0 0 []=Wire.bytes 1 (e:Int) ((0:Nat):Int) ((0:Nat):Int) (⟨#[]⟩:ByteArray).data.toList:=rfl
theorem sS' (a:Mod.Ag) (n:Nat->Nat):(a.drop n).room<=a.room:=by
 simp only[Mod.Ag.room,Mod.Ag.drop,Mod.dropTo,Mod.Flow.drop];simp only[show(0:Nat) < 3 by omega,show(1:Nat) < 3 by omega,show(2:Nat) < 3 by omega,if_true,List.length_drop];omega
theorem rn' (a:Mod.Ag) (w:Bool):Mod.Ag.room {a with welcome:=w,fl:=Mod.fresh a.fl 3}=a.room:=by
 simp[Mod.Ag.room,Mod.fresh]
theorem sT' (a:Mod.Ag) (s:Nat) (h:List Nat):Mod.Ag.room {a with fl:=Mod.upd a.fl s {a.fl s with held:=h}}=a.room:=by
 have:∀t,(Mod.upd a.fl s {a.fl s with held:=h} t).kept=(a.fl t).kept:=fun t=>by
  unfold Mod.upd;split
  ·rename_i e;rw[e]
  ·rfl
 simp only[Mod.Ag.room,this]
theorem nU' (a:Mod.Ag) (k e st q:Int) (b:ByteArray):(a.deliver k e st q b).room<=a.room:=by
 have hd:=sS' a (a.says k e st q b);unfold Mod.Ag.deliver;split
 ·exact Nat.le_refl _
 ·split
  ·exact Nat.le_refl _
  ·split
   ·exact Nat.le_refl _
   ·split
    ·rw[rn'];exact hd
    ·split
     ·split
      ·exact Nat.le_refl _
      ·rw[sT'];exact hd
     ·exact Nat.le_refl _
theorem pS' (k:Mod.Sk) (h:∀i,i < 3->(k.logs i).length<=2147483647):(jA' k).size=12/\∀i,i < 3->Wire.numAt (jA' k).data.toList (4 * i)=(k.logs i).length:=by
 have e:(jA' k).data.toList=Wire.le4 ((k.logs 0).length:Int)++Wire.le4 ((k.logs 1).length:Int)++Wire.le4 ((k.logs 2).length:Int):=by simp[jA',dR'];rfl
 refine⟨by rw[<-ByteArray.size_data,<-Array.length_toList,e];rfl,fun i hi=>?_⟩;rw[e];have h0:=h i hi;obtain rfl|rfl|rfl:i=0\/i=1\/i=2:=by omega
 all_goals exact Wire.num4_le4 (by omega) (by omega)
theorem pT' (k:Mod.Sk) (e:Nat) (f:e<=2147483647) (h:∀i,i < 3->(k.logs i).length<=2147483647):Wire.proper 2 e 0 0 (jA' k)=true:=by
 obtain⟨h1,h2⟩:=pS' k h;have g0:=h2 0 (by omega);have g1:=h2 1 (by omega);have g2:=h2 2 (by omega);have r:=h 0 (by omega);have u:=h 1 (by omega);have z:=h 2 (by omega);simp only[Nat.mul_zero,Nat.mul_one,show 4 * 2=8 from rfl]at g0 g1 g2;simp[Wire.proper,Wire.isNum,Wire.welBody,h1,g0,g1,g2];omega
theorem ro' (k:Mod.Sk) (f e:Int) (s q:Nat) (b:ByteArray):(aq' k f e s q b).epoch=k.epoch:=by
 unfold aq';split
 ·exact dl' _ _ _ _
 ·exact nb' _ _ _
def fe':Mod.Sk:={epoch:=0,logs:=fun _=>[],held:=[]}
end Go.Proofs.YtamafdcnbcoegaaGreat
namespace Go.Proofs.YtamafdcnbcoegaaGreat
open Go.RowKit
theorem eW' {F:Array Oper} {o:Oper} {a:Act} {K:Act->World->Prop} {G:Exit->Act->World->Prop} {E:Prop} {w:World} (H:o.guard=none) (s x:Operand) (t:TypeId) (I:o.op= .call {callee:= .builtin .append,args:= #[s,x],argTypes:= #[t,t]})
  (base:Nat) (e:TypeId) (z:Value) (size bytes:Nat) (J:Tryz.prog.underlying t=some (.slice e)) (M:(Tryz.prog.info? e).map (fun i=>(i.zero,i.size,i.bytes))=some (some z,size,bytes)) (O:z.cells.size=size) (Q:0 < size)
  (v:Value) (n:Nat) (xs:List Value) (U:w.ownsRow base e size v n xs) (hs:a.eval s=v) (D:Addr) (m c:Nat) (r:List Value) (V:a.eval x= .slice (some D) m c) (hl:r.length=m * size) (X:∀j u,r[j]? =some u->w.cell? (D.add j)=some u)
  (h1:∀u∈r,u.oneCell'=true) (Y:n+m<=maxLen) (Z:(n+m) * bytes<=140737488355328) (aa:base<=w.heap.size)
  (h:∀f w',w'.ownsRow base e size f (n+m) (xs++r)->w.grownBy w' v.ownBlock->(f.ownBlock=v.ownBlock\/f.ownBlock=some w.heap.size)->K (a.put o.dst f) w'):if Region.wanted o (yielded F a.tmps)=true then o.wp Tryz.prog a w K G else E:=by
 rw[if_pos (by simp[Region.wanted,H])];obtain⟨i0,hi,ab,ac,ad⟩:=bj' M;obtain⟨f,w',ah,h2,h3,_,h5⟩:=run_append_own_at (P:=Tryz.prog) (w:=w) base t o.type e i0 z size bytes J hi ab ac ad O Q v n xs U D m c r hl X h1 Y Z aa;unfold Oper.wp execOp;simp only[I,resolve,invoke,builtin,Sem.run_bind,Sem.run_pure,Result.andThen_ok,List.map_toArray,List.map_cons,List.map_nil,hs,V,ah];exact h f w' h2 h3 h5
section
variable {B g:Nat} {x y z:World} {wv:Nat->Value} {L:Nat->List ByteArray}
end
def wa' (B:Nat) (b:ByteArray) (v:Value) (f:World):Prop:=∃g,v= .slice (some ⟨g,0,none⟩) 1 1/\B<=g/\f.heap[g]? =some (.cells #[.string b] 9 (0,0))
theorem pU' (B:Nat) (b:ByteArray):bA' (wa' B b):=fun _ _ _ h f=>by
 obtain⟨g,e,h1,h2⟩:=h;exact⟨g,e,h1,(f.block g (lt_of_block h2)).trans h2⟩
theorem ii' {B:Nat} {b:ByteArray} {E:Nat->Prop} (f:∀k,E k->k < B):aU' E (wa' B b):=fun _ _ _ h hF=>by
 obtain⟨g,e,h1,h2⟩:=h;exact⟨g,e,h1,hF.blk h2 (fun e=>by have:=f _ e;omega)⟩
def vg' (B f:Nat) (lv:Value) (xs:List Value) (b:ByteArray) (v:Value) (r:World):Prop:=r.ownsRow f 9 1 v (xs.length+1) (xs++[.string b])/\∀k,v.ownBlock=some k->lv.ownBlock=some k\/B<=k
theorem pV' (B f:Nat) (lv:Value) (xs:List Value) (b:ByteArray):bA' (vg' B f lv xs b):=fun _ _ _ h r=>⟨M' h.1 (fun k u=>r.block k (World.ownsRow.lt h.1 k u).2),h.2⟩
theorem nV' {B r:Nat} {lv:Value} {xs:List Value} {b:ByteArray} {E:Nat->Prop} (u:∀k,E k->k < B/\lv.ownBlock≠some k):aU' E (vg' B r lv xs b):=fun _ _ _ h hF=>
 ⟨M' h.1 (fun k f=>hF.rest k (World.ownsRow.lt h.1 k f).2 (fun e=>by
  obtain⟨h1,h2⟩:=u k e;rcases h.2 k f with h3|h3
  ·exact h2 h3
  ·omega)),h.2⟩
def rT' (B:Nat) (l:List UInt8) (v:Value) (f:World):Prop:=as' B f v l
def rU' (B:Nat) (l:List UInt8) (v:Value) (f:World):Prop:=∃g r,v= .slice (some ⟨g,0,none⟩) 1 1/\B<=g/\f.heap[g]? =some (.cells #[r] 44 (0,0))/\as' B f r l
def gs' (u B:Nat) (lv:Value) (xs:List Value) (l:List UInt8) (v:Value) (f:World):Prop:=∃r,f.ownsRow u 44 1 v (xs.length+1) (xs++[r])/\as' B f r l/\∀k,v.ownBlock=some k->lv.ownBlock=some k\/B<=k
section
variable {b0 B:Nat} {l:List UInt8} {lv:Value} {xs:List Value} {E:Nat->Prop}
theorem cW' (f:∀k,E k->k < B):aU' E (rT' B l):=fun _ _ _ h hF=>eB' h hF f
theorem ij':bA' (rT' B l):=fun _ _ _ h f=>ca' h f
theorem cX' (f:∀k,E k->k < B):aU' E (rU' B l):=fun _ _ _ h hF=>by
 obtain⟨g,r,e,h1,h2,h3⟩:=h;exact⟨g,r,e,h1,hF.blk h2 (fun h=>by have:=f g h;omega),eB' h3 hF f⟩
theorem ik':bA' (rU' B l):=fun _ _ _ h f=>by
 obtain⟨g,r,e,h1,h2,h3⟩:=h;exact⟨g,r,e,h1,(f.block g (lt_of_block h2)).trans h2,ca' h3 f⟩
theorem gt' (r:∀k,E k->k < B/\lv.ownBlock≠some k):aU' E (gs' b0 B lv xs l):=fun _ _ _ h hF=>by
 obtain⟨u,h1,h2,h3⟩:=h;refine⟨u,M' h1 (fun k f=>hF.rest k (World.ownsRow.lt h1 k f).2 (fun e=>?_)),eB' h2 hF (fun k f=>(r k f).1),h3⟩;rcases h3 k f with h4|h4
 ·exact(r k e).2 h4
 ·have:=(r k e).1;omega
theorem il':bA' (gs' b0 B lv xs l):=fun _ _ _ h f=>by
 obtain⟨r,h1,h2,h3⟩:=h;exact⟨r,M' h1 (fun k u=>f.block k (World.ownsRow.lt h1 k u).2),ca' h2 f,h3⟩
end
def pW' (B K p:Nat) (P:Pl) (lv:Value) (f:List ByteArray) (j:Nat) (r:World):Prop:=∃N,Net B K p r N/\N.pl={P with up:=P.up++(f.take j).map (·.data.toList)}/\N.ov=lv/\N.oF=f
def pX' (B K p:Nat) (P:Pl) (lv:Value) (f:List ByteArray) (j:Nat) (r:World):Prop:=∃N,Net B K p r N/\N.pl={P with dn:=P.dn++(f.take j).map (·.data.toList)}/\N.ov=lv/\N.oF=f
section
variable {B K p j m cap:Nat} {P:Pl} {lv:Value} {lad:Option Addr} {F:List ByteArray} {w z:World} {N:by'}
theorem pW'.below (h:pW' B K p P lv F j w) (f:Below w.heap.size w z):pW' B K p P lv F j z:=by
 obtain⟨N,h1,h2⟩:=h;exact⟨N,h1.below f,h2⟩
theorem pX'.below (h:pX' B K p P lv F j w) (f:Below w.heap.size w z):pX' B K p P lv F j z:=by
 obtain⟨N,h1,h2⟩:=h;exact⟨N,h1.below f,h2⟩
theorem Net.outShape (f:Net B K p w N):∃lad cap,N.ov= .slice lad N.oF.length cap:=by
 have h:L' B w N.ov N.ol N.oF (fun _=>False):=f.at_ 9;obtain⟨r,cap,e,_⟩:=(al' h.row).shape;exact⟨r,cap,by rw[e,h.len]⟩
theorem Net.outAt (G:Net B K p w N) (r:N.ov= .slice lad m cap) (hj:j < N.oF.length):
  ∃g o f c,lad=some ⟨g,o,none⟩/\w.cell? ⟨g,o+j,none⟩=some (.slice f N.oF[j].data.toList.length c)/\as' B w (.slice f N.oF[j].data.toList.length c) N.oF[j].data.toList/\db' p N 9 g/\∀k,(Value.slice f N.oF[j].data.toList.length c).ownBlock=some k->db' p N 9 k:=by
 have h:L' B w N.ov N.ol N.oF (fun _=>False):=G.at_ 9;obtain⟨f,Q,e,_,_,H⟩:=(al' h.row).shape;obtain⟨U,h1,h2⟩:=h.get j hj;have hl:=h.len;obtain⟨g,o,u,h3⟩:=H (by omega);have h4:=h3 j (by omega);rw[h1]at h4;obtain⟨I,J,M,_⟩:=h2.shape;rw[M]at h4 h2 h1;rw[r]at e;injection e with D;refine⟨g,o,I,J,by rw[D,u],h4,h2, .inl ?_,fun k O=> .inr ⟨j,by omega,_,h1,O⟩⟩;rw[r,D,u];rfl
theorem Net.upShape (r:Net B K p w N):∃f cap,N.upv= .slice f N.up.length cap/\w.cell? ⟨p,2,none⟩=some (.slice f N.up.length cap):=by
 have h:w.ownsRow B 44 1 N.upv N.up.length (N.up.map (·.1)):=r.at_ 3;obtain⟨f,cap,e,_⟩:=(al' h).shape;exact⟨f,cap,e,by rw[<-e];exact r.cell rfl⟩
theorem Net.dnShape (r:Net B K p w N):∃f cap,N.dnv= .slice f N.dn.length cap/\w.cell? ⟨p,3,none⟩=some (.slice f N.dn.length cap):=by
 have h:w.ownsRow B 44 1 N.dnv N.dn.length (N.dn.map (·.1)):=r.at_ 4;obtain⟨f,cap,e,_⟩:=(al' h).shape;exact⟨f,cap,e,by rw[<-e];exact r.cell rfl⟩
theorem pY' {F:List ByteArray} {j:Nat} (hj:j < F.length) (f:List (List UInt8)):f++(F.take (j+1)).map (·.data.toList)=(f++(F.take j).map (·.data.toList))++[F[j].data.toList]:=by
 rw[List.take_succ_eq_append_getElem hj,List.map_append,List.append_assoc];rfl
theorem Net.upStep (f:Net B K p w N) (hj:j < F.length) (r:N.pl={P with up:=P.up++(F.take j).map (·.data.toList)}) (u:N.ov=lv) (hF:N.oF=F) {v:Value} (D:Far (fun k=>N.upv.ownBlock=some k) w z)
  (G:gs' B w.heap.size N.upv (N.up.map (·.1)) F[j].data.toList v z):pW' B K p P lv F (j+1) (z.setCell ⟨p,2,none⟩ v):=by
 obtain⟨H,h1,h2,h3⟩:=G;rw[List.length_map]at h1;refine⟨_,f.pushU D h1 h3 h2,?_,u,hF⟩;have e:(N.pushU v H F[j].data.toList).pl={N.pl with up:=N.pl.up++[F[j].data.toList]}:=by simp[by'.pl,by'.pushU]
 rw[e,r,pY' hj]
theorem Net.dnStep (f:Net B K p w N) (hj:j < F.length) (r:N.pl={P with dn:=P.dn++(F.take j).map (·.data.toList)}) (u:N.ov=lv) (hF:N.oF=F) {v:Value} (D:Far (fun k=>N.dnv.ownBlock=some k) w z)
  (G:gs' B w.heap.size N.dnv (N.dn.map (·.1)) F[j].data.toList v z):pX' B K p P lv F (j+1) (z.setCell ⟨p,3,none⟩ v):=by
 obtain⟨H,h1,h2,h3⟩:=G;rw[List.length_map]at h1;refine⟨_,f.pushD D h1 h3 h2,?_,u,hF⟩;have e:(N.pushD v H F[j].data.toList).pl={N.pl with dn:=N.pl.dn++[F[j].data.toList]}:=by simp[by'.pl,by'.pushD]
 rw[e,r,pY' hj]
end
def rdg (n:Nat):ByteArray:=⟨#[114]⟩++fK' n
theorem pZ' {n:Nat} (h:n < 10000000000):(rdg n).size<=11:=by
 have:=iS' h;unfold rdg;rw[ByteArray.size_append];have:(ByteArray.mk #[114]).size=1:=rfl;omega
def im' (i:Nat) (P:Pl) (e:Int) (f:Bool) (a':Mod.Ag):Bool×Pl:=
 if e=0 then(true,{P with a:=a',da:=f,made:=P.made+1,T:=fun t=>if t=i then P.T i++[rdg (P.made+1)]else P.T t})
 else if e=4 then(true,{P with a:=a',da:=f,made:=P.made+1,fa:=true,stream:=i,may:=rdg (P.made+1)})
 else if e=7 then(decide (a'.room=24),{P with a:=a',da:=f,made:=P.made+1})else(P.fa&&decide (e=3),{P with a:=a',da:=f,made:=P.made+1})
def qa' (P:Pl):Nat:=(P.T 0).length+(P.T 1).length+(P.T 2).length
def vh' (i:Nat) (P:Pl) (v:Value) (r:Pl):Prop:=(100<=qa' P/\v= .bool true/\r=P)\/(qa' P < 100/\∃ (e:Int) (f:Bool) (a':Mod.Ag),rj' i (rdg (P.made+1)) P.da P.a e f a'/\v= .bool (im' i P e f a').1/\r=(im' i P e f a').2)
def lo' (B K p:Nat) (N:by') (s:Nat) (b:ByteArray) (f:World):Prop:=∃v,Net B K p f (N.take s v b)
theorem lo'.below {B K p s:Nat} {N:by'} {b:ByteArray} {w f:World} (h:lo' B K p N s b w) (r:Below w.heap.size w f):lo' B K p N s b f:=by
 obtain⟨v,h⟩:=h;exact⟨v,h.below r⟩
theorem Net.tvShape {B K p:Nat} {w:World} {N:by'} (f:Net B K p w N) {s:Nat} (hs:s < 3):w.ownsRow B 9 1 (N.tv s) (N.T s).length (aK' (N.T s))/\(∃u cap,N.tv s= .slice u (N.T s).length cap/\w.cell? ⟨p,4+s,none⟩=some (.slice u (N.T s).length cap))/\
  (∀k,(N.tv s).ownBlock=some k->B<=k/\k < w.heap.size/\k≠p):=by
 have r:w.ownsRow B 9 1 (N.tv s) (N.T s).length (aK' (N.T s)):=by
  obtain rfl|rfl|rfl:s=0\/s=1\/s=2:=by omega
  ·exact f.at_ 5
  ·exact f.at_ 6
  ·exact f.at_ 7
 obtain⟨u,cap,e,_⟩:=(al' r).shape;refine⟨r,⟨u,cap,e,?_⟩,fun k z=>⟨(World.ownsRow.lt r k z).1,(World.ownsRow.lt r k z).2,fun e=>?_⟩⟩
 ·rw[<-e];obtain rfl|rfl|rfl:s=0\/s=1\/s=2:=by omega
  all_goals exact f.cell rfl
 ·exact(al' r).ne (f.at_ 0) (by decide) (by rw[<-e];exact z)
def spK (a:Mod.Ag):Nat->Nat
 |0=>0
 |k+1=>spK a k+(au' a k).length
theorem up' (a:Mod.Ag):spK a 3=a.room:=by simp[spK,au',Mod.Ag.spool,Mod.Ag.room]
theorem uq' (a:Mod.Ag) {N:Nat} (h:∀s,s < 3->(a.fl s).base+(a.fl s).kept.length<=N):∀k,k<=3->spK a k<=k * N
 |0,_=>by simp[spK]
 |k+1,f=>by
  have h1:=uq' a h k (by omega);have h2:=h k (by omega);have h3:(au' a k).length<=(a.fl k).kept.length:=by simp only[au',Mod.Ag.spool];split <;> simp
  simp only[spK];rw[Nat.succ_mul];omega
theorem mi' {B K p b i:Nat} {w:World} {P:Pl} (Y:cb' B K p w P) (ac:dN' b P) (hi:i < 3):
  Calls Tryz.prog 68 #[.pointer (some ⟨p,0,none⟩), .int .i64 i] w (dO' B K p w (vh' i P)):=by
 obtain⟨N,Y,rfl⟩:=Y;have bQ:qa' N.pl<=100:=ac.room;obtain⟨_,⟨a0,cq,_,c4⟩,_⟩:=Y.tvShape (s:=0) (by omega);obtain⟨_,⟨a1,Q,_,c5⟩,_⟩:=Y.tvShape (s:=1) (by omega);obtain⟨_,⟨cr,I,_,bq⟩,_⟩:=Y.tvShape (s:=2) (by omega);obtain⟨aq,aQ⟩:∃n,n=(N.T 0).length:=⟨_,rfl⟩;obtain⟨au,aR⟩:∃n,n=(N.T 1).length:=⟨_,rfl⟩;obtain⟨av,aS⟩:∃n,n=(N.T 2).length:=⟨_,rfl⟩;rw[<-aQ]at c4;rw[<-aR]at c5;rw[<-aS]at bq;have br:qa' N.pl=aq+au+av:=by rw[aQ,aR,aS];rfl
 have bt:=t' br;have cs:aq+au+av<=100:=by omega
 have aT:=t' Y;have aU:=t' ac;have bR:∀s,s < 3->(N.a.fl s).base+(N.a.fl s).kept.length<=10000000:=fun s hs=>by have h1:(N.a.fl s).base+(N.a.fl s).kept.length<=b:=ac.ag.sum s hs;have:=ac.lim;omega
 have cu:N.made<=10000000:=by have h1:N.made<=b:=ac.made;have:=ac.lim;omega
 have aV:w.cell? ⟨p,7,none⟩=some (.int .i64 N.made):=Y.cell rfl;have bS:=D' (i:=7) (Y.at_ 0);clear aQ aR aS br bQ Y ac;go_enter Tryz.func68,Tryz.ntmps68;by_cases bT:100<=aq+au+av
 ·have bU:(100:Int)<=(aq:Int)+au+av:=by omega
  go_upto_region 1 with fail
  go_quiet (fail)
  go_wp2;go_ret;exact⟨_,_,rfl, .inl ⟨by rw[i' bt];exact bT,rfl,rfl⟩,⟨N,(i' aT).below (below_drewN (Below.refl _ _) _),rfl⟩,ag' _ _ _⟩
 ·have bU:¬ (100:Int)<=(aq:Int)+au+av:=by omega
  go_upto_region 1 with fail
  go_quiet (fail)
  go_upto_region 4 with fail
  obtain⟨z,aa⟩:∃z:by',z={N with made:=N.made+1,stream:=N.stream,may:=N.may,seen:=N.seen,fa:=N.fa,fs:=N.fs}:=⟨_,rfl⟩;refine C' (fun x=>Net B K p x z/\Far (fun k=>k=p) w x) ⟨by rw[aa];exact((i' aT).below (below_drewN (Below.refl _ _) _)).put1 (j:=7) (v:= .int .i64 ((N.made:Int)+1)) (N.made+1) N.stream N.may N.seen N.fa N.fs rfl,(ag' _ _ _).trans (O' _ _ _ _) (fun _ _ h=>h)⟩ ?_;clear c4 c5 bq aV bS;rintro x ⟨ah,bu⟩;have bw:=t' (show z.pl={N.pl with made:=N.made+1} by rw[aa];rfl);have bV:z.va=N.va:=by rw[aa]
  have aD:z.made=N.made+1:=by rw[aa]
  have aV:x.cell? ⟨p,7,none⟩=some (.int .i64 z.made):=ah.cell rfl;have c0:x.cell? ⟨p,0,none⟩=some (y' z.va):=ah.cell rfl;have cv:=(ah.lt 0 p rfl).1;obtain⟨k1,aW⟩:∃k1,k1=z.made:=⟨_,rfl⟩;rw[<-aW]at aV aD;have cw:k1<=10000001:=by omega
  have aX:=t' (lk' k1 x (by omega));obtain⟨aE,aF⟩:∃aE,aE=fK' k1:=⟨_,rfl⟩;rw[<-aF]at aX;obtain⟨body,aY⟩:∃body:ByteArray,body=⟨#[114]⟩++aE:=⟨_,rfl⟩;have aG:Hid (body=rdg (N.made+1)):=t' (by rw[aY,aF,aD];rfl);have cx:body.size<=11:=by rw[i' aG];exact pZ' (by omega)
  have cy:aE.size<=10:=by rw[aF];exact iS' (by omega)
  have ax:Hid (∀y:World,Below x.heap.size x y->Calls Tryz.prog 21 #[y' z.va, .int .i64 i, .string body] y fun ab w'=>
    ∃ (e:Int) (u:Bool) (a':Mod.Ag) (U':Nat->Prop),ab= .returned (.int .i64 e)/\rj' i (rdg (N.made+1)) N.da N.a e u a'/\Net B K p w' {z with a:=a',da:=u,ua:=U'}/\Far z.ua y w'):=t' (fun y U=>by
   have r:=ah.below U;have aH:AgE z.da y z.va z.a z.ua:=r.at_ 1;have ai:z.a=N.a:=by rw[aa]
   have aZ:z.da=N.da:=by rw[aa]
   refine(aH.submit i body (by rw[ai];exact(i' aU).ag) (by have:=(i' aU).lim;omega)).mono ?_;rintro ab w' ⟨e,u,a',U',rfl,Q,I,ay,bz⟩;rw[ai,aZ,i' aG]at bz;exact⟨e,u,a',U',rfl,bz,r.agent Q I ay,I⟩)
  have bA:=t' (fun k (D:z.ua k)=>(ah.lt 1 k D).1);have J:=t' (bu.mono (E':=fun k=>B<=k) (fun k _ e=>by have e:k=p:=e;omega));have bW:=t' aa;have bX:=t' (And.intro aW aD);clear aa aW aD bV bu ah aT aF;have bB:=t' aY;clear aY;go_upto_region 5 with (go_at_call 23;refine(i' aX).mono ?_;rintro ab y ⟨rfl,U⟩;replace ax:=t' ((i' ax) y U);replace c0:=(U.cell (p:=⟨p,0,none⟩) (World.block_lt_of_cell? _ _ c0)).trans c0;replace J:=t' ((i' J).behind (U.mono (i' J).size));clear U);rw[<-i' bB];clear aX bB;go_upto_region 6 with (go_at_call 21;unfold y' at ax;refine(i' ax).mono ?_;rintro ab F ⟨e,u,a',U',rfl,Z,r,bC⟩;replace Z:=t' Z;replace r:=t' r;replace J:=t' ((i' J).trans bC (fun k _ h=>(i' bA) k h));clear bC);obtain⟨f,ba⟩:∃f:by',f={z with a:=a',da:=u,ua:=U'}:=⟨_,rfl⟩;rw[<-ba]at r;have X:Hid (f.pl={N.pl with a:=a',da:=u,made:=N.made+1}):=t' (by rw[ba,show({z with a:=a',da:=u,ua:=U'}:by').pl={z.pl with a:=a',da:=u} from rfl,i' bw]);clear ba c0 ax bA bX bw bW aU;have aj:qa' N.pl < 100:=by rw[i' bt];omega
  by_cases h0:e=0
  ·have G:=t' (show im' i N.pl e u a'=(true,{N.pl with a:=a',da:=u,made:=N.made+1,T:=fun t=>if t=i then N.pl.T i++[rdg (N.made+1)]else N.pl.T t}) by unfold im';rw[if_pos h0];rfl);subst h0;obtain⟨ak,⟨M,O,bb,bc⟩,ao⟩:=(i' r).tvShape hi;have bY:(f.T i).length<=100:=by
    have ai:f.T i=N.T i:=congrArg (fun q=>Pl.T q i) (i' X);rw[ai];have h1:qa' N.pl=(N.T 0).length+(N.T 1).length+(N.T 2).length:=rfl;obtain rfl|rfl|rfl:i=0\/i=1\/i=2:=by omega
    all_goals omega
   rw[bb]at ak ao;have bD:Hid (∀ (y:World) (v:Value),Far (fun k=>(Value.slice M (f.T i).length O).ownBlock=some k) F y->vg' F.heap.size B (.slice M (f.T i).length O) (aK' (f.T i)) body v y->lo' B K p f i body (y.setCell ⟨p,4+i,none⟩ v)):=t' (fun y v Q I=>by rw[<-bb]at Q I;exact⟨v,(i' r).take hi Q (by have:=I.1;rw[bG']at this;exact this) I.2⟩);have bd:(aK' (f.T i)).length=(f.T i).length:=bG' _;obtain⟨un,aI⟩:∃un,un=(f.T i).length:=⟨_,rfl⟩;obtain⟨aJ,be⟩:∃aJ,aJ=aK' (f.T i):=⟨_,rfl⟩;rw[<-aI,<-be]at bD ak;rw[<-be,<-aI]at bd;rw[<-aI]at ao bc bY;have bE:∀k,(Value.slice M un O).ownBlock=some k->k < F.heap.size:=fun k D=>(ao k D).2.1;have bZ:∀k,(Value.slice M un O).ownBlock=some k->B<=k:=fun k D=>(ao k D).1;have aK:(Value.slice M un O).ownBlock≠some p:=fun e=>(ao p e).2.2 rfl;have ca:=t' ak;have bF:=t' ((i' r).at_ 0:F.heap[p]? =some (.cells (bz' f) 100 (0,0)));have bf:=((i' r).lt 0 p rfl).2;have cz:=(i' r).hB;have cA:(i:Int) < 3:=by omega
   have cB:(0:Int)<=i:=by omega
   have cC:=r;clear ak be aI bb ao r;go_upto_region 9 with fail;refine Q' (by kernel_rfl)
    [fun v _=>v= .pointer (some ⟨p,0,none⟩),fun v _=>v= .int .i64 i,fun v _=>v= .pointer (some ⟨p,0,none⟩),fun v _=>v= .int .i64 i,fun v _=>v= .pointer (some ⟨p,0,none⟩),fun v _=>v= .pointer (some ⟨p,4,none⟩),fun v _=>v= .pointer (some ⟨p,4+i,none⟩),fun v _=>v= .slice M un O,
     fun v _=>v= .string body,wa' F.heap.size body,vg' F.heap.size B (.slice M un O) aJ body,fun v _=>v= .pointer (some ⟨p,0,none⟩),fun v _=>v= .pointer (some ⟨p,4,none⟩),fun v _=>v= .pointer (some ⟨p,4+i,none⟩),fun _ y=>lo' B K p f i body y]
    [[(0,none)],[(1,none)],[(0,none)],[(1,none)],[(64,some 2)],[(66,some 4)],[(67,some 5),(65,some 3)],[(68,some 6)],[(5,none)],[(70,some 8)],[(69,some 7),(71,some 9)],[(62,some 0)],[(73,some 11)],[(74,some 12),(63,some 1)],[(75,some 13),(72,some 10)]] [some 62,some 63,some 64,some 65,some 66,some 67,some 68,some 69,some 70,some 71,some 72,some 73,some 74,some 75,none] [false,false,false,false,false,false,false,false,false,false,false,false,false,false,false,false,false,false,false,false,false,false,false,false,false,false,false,false,false,false,false,false,false,false,false,false,false,false,false,false,false,false,false,false,false,false,false,false,false,false,false,false,false,false,false,false,false,false,false,false,false,false,true,true,true,true,true,true,true,true,true,true,true,true,true,true,false,false,false,false,false,false,false,false,false,false,false,false,false,false,false,false,false,false,false,false,false,false,false,false,false,false,false,false,false,false,false]
    [(10,fun k=>(Value.slice M un O).ownBlock=some k),(14,fun k=>k=p)]
    (by kernel_rfl) (by kernel_rfl) (by kernel_rfl) (by kernel_rfl) (by kernel_rfl) ?_ ?_ ?_ ?_
   ·repeat' (first|exact J' _|exact pU' _ _|exact pV' _ _ _ _ _|exact(fun _ _ _ h az=>h.below az)|exact trivial|apply And.intro)
   ·repeat' (first|exact trivial|exact .inl rfl|exact .inr (.inr (ak' _ _))|exact .inr (.inr (ii' (fun k D=>bE k D)))|exact .inr (.inr (ii' (fun k (D:k=p)=>by omega)))|exact .inr (.inr (nV' (fun k (D:k=p)=>⟨by omega,by rw[D];exact aK⟩)))|exact .inr (.inl (show ar' _ 14 10=true by decide+kernel))|apply And.intro)
   ·refine⟨?_,?_,?_,?_,?_,?_,?_,?_,?_,?_,?_,?_,?_,?_,?_,trivial⟩;all_goals
     intro cD y az aL;have cb:=az.size;have bg:=t' az;clear az;simp only[I',List.getD_cons_zero,List.getD_cons_succ,Array.getD_eq_getD_getElem?]at aL;try simp at aL
    iterate 7
     ·go_simp;exact⟨_,rfl,Far.refl _ _,rfl⟩
    ·have z0:y.cell? ⟨p,4+i,none⟩=some (.slice M un O):=by
      have h1:=(i' bg).rest p bf (by
       rintro⟨q,V,g1,g2,aA⟩;simp at V;rcases V with rfl|rfl
       ·exact aK aA
       ·exact absurd (show ar' _ 14 7=false from g2) (by decide+kernel))
      exact(World.cell?_of_block h1).trans bc
     go_simp;exact⟨_,rfl,Far.refl _ _,rfl⟩
    ·go_simp;exact⟨_,rfl,Far.refl _ _,rfl⟩
    ·go_simp;exact⟨_,rfl,A' ((Below.refl _ _).alloc (Nat.le_refl _) _),_,rfl,cb,heap_alloc_new y _⟩
    ·obtain⟨cc,cd,ce,cE,cf⟩:=aL;have ak:=M' (w':=y) (i' ca) (fun k D=>(i' bg).rest k (bE k D) (by
      rintro⟨q,V,g1,g2,aA⟩;simp at V;rcases V with rfl|rfl
      ·exact g1 rfl
      ·have e:k=p:=aA;exact aK (by rw[<-e];exact D)))
     refine eW' rfl (.tmp 69) (.tmp 71) 45 rfl B 9 (.string ⟨#[]⟩) 1 16 Tryz.underlying45 (by kernel_rfl) rfl (by decide) (.slice M un O) un aJ ak (by simp[Act.eval,cc]) ⟨cd,0,none⟩ 1 1 [.string body] (by simp[Act.eval,ce]) rfl ?_ (by intro cg hu;simp at hu;subst hu;rfl) (by unfold maxLen;omega) (by omega) (by omega) ?_
     ·intro k cg D;rw[cE',m' cf,Nat.zero_add];simpa using D
     ·intro bG w' Q I ay;exact⟨bG,rfl,ac' (.head _) (bl' I),by rw[bd];exact Q,fun k D=>by
       have D:bG.ownBlock=some k:=D;rcases ay with e|e
       ·exact .inl (by rw[<-e];exact D)
       ·rw[e]at D;injection D with D;exact .inr (by omega)⟩
    iterate 3
     ·go_simp;exact⟨_,rfl,Far.refl _ _,rfl⟩
    ·have bh:Far (fun k=>(Value.slice M un O).ownBlock=some k) F y:=(i' bg).mono (by
      rintro k _ ⟨q,V,g1,g2,aA⟩;simp at V;rcases V with rfl|rfl
      ·exact aA
      ·exact absurd rfl g1)
     have bi:=bh.blk (i' bF) aK;have cF:y.frozen? ⟨p,4+i,none⟩=false:=D' (i:=4+i) bi;have cG:y.cell? ⟨p,4+i,none⟩=some (.slice M un O):=by rw[m' bi,<-m' (i' bF)];exact bc
     obtain⟨cH,bj⟩:=aL;obtain⟨cI,cJ,bk,_⟩:=(al' bj.1).shape;have bH:=t' bj;have ch:=t' bh;clear bj bi bh;rw[bk,bd]at bH;go_simp;exact⟨ac' (.tail _ (.head _)) (O' y p (4+i) _),i' bD y _ (i' ch) (i' bH)⟩
   ·intro H y bI bJ;have bK:=bJ.2.2.2.2.2.2.2.2.2.2.2.2.2.2.1;have ci:=t' bK;have cj:=t' (bI.mono (fun k _ h=>by
     obtain⟨q,V,h⟩:=h;simp at V;rcases V with rfl|rfl
     ·exact bZ k h
     ·have:k=p:=h;omega):Far (fun k=>B<=k) F y)
    clear bJ bI bK;simp only[R'];generalize H 62=cK;generalize H 63=cL;generalize H 64=cM;generalize H 65=cN;generalize H 66=cO;generalize H 67=cP;generalize H 68=cQ;generalize H 69=cR;generalize H 70=cS;generalize H 71=cT;generalize H 72=cU;generalize H 73=cV;generalize H 74=cW;generalize H 75=cX;go_wp2;go_ret;obtain⟨ck,cl⟩:=i' ci;refine⟨_,_,rfl, .inr ⟨aj,0,u,a',i' Z,by rw[i' G];rfl,by rw[i' G]⟩,⟨_,cl,?_⟩,(i' J).trans (i' cj) (fun _ _ h=>h)⟩;rw[show(f.take i ck body).pl={f.pl with T:=fun t=>if t=i then f.pl.T i++[body]else f.pl.T t} from rfl,i' X,i' aG]
  ·have aM:F.cell? ⟨p,13,none⟩=some (.bool f.fa):=(i' r).cell rfl;have aN:f.fa=N.fa:=congrArg Pl.fa (i' X);rw[aN]at aM;by_cases h4:e=4
   ·have G:=t' (show im' i N.pl e u a'=(true,{N.pl with a:=a',da:=u,made:=N.made+1,fa:=true,stream:=i,may:=rdg (N.made+1)}) by unfold im';rw[if_neg h0,if_pos h4];rfl);subst h4;have cY:=D' (i:=13) ((i' r).at_ 0);have cZ:F.cell? ⟨p,8,none⟩=some (.int .i64 f.stream):=(i' r).cell rfl;have db:=D' (i:=8) ((i' r).at_ 0);have dc:F.cell? ⟨p,9,none⟩=some (.string f.may):=(i' r).cell rfl;have dd:=D' (i:=9) ((i' r).at_ 0);clear aN;go_wp2;go_ret;have Q:=(i' r).put1 (j:=13) (v:= .bool true) f.made f.stream f.may f.seen true f.fs rfl;have I:=Q.put1 (j:=8) (v:= .int .i64 i) f.made i f.may f.seen true f.fs rfl;have ay:=I.put1 (j:=9) (v:= .string body) f.made i body f.seen true f.fs rfl;have cm:Far (fun k=>B<=k) F (((F.setCell ⟨p,13,none⟩ (.bool true)).setCell ⟨p,8,none⟩ (.int .i64 i)).setCell ⟨p,9,none⟩ (.string body)):=
     (((O' F p 13 (.bool true)).trans (O' _ p 8 (.int .i64 i)) (fun _ _ h=>h)).trans (O' _ p 9 (.string body)) (fun _ _ h=>h)).mono (fun k _ e=>by have e:k=p:=e;omega)
    refine⟨_,_,rfl, .inr ⟨aj,4,u,a',i' Z,by rw[i' G];rfl,by rw[i' G]⟩,⟨_,ay,?_⟩,(i' J).trans cm (fun _ _ h=>h)⟩;rw[<-i' aG];show({f.pl with fa:=true,stream:=i,may:=body}:Pl)= _;rw[i' X]
   ·by_cases bl:e=7
    ·have G:=t' (show im' i N.pl e u a'=(decide (a'.room=24),{N.pl with a:=a',da:=u,made:=N.made+1}) by unfold im';rw[if_neg h0,if_neg h4,if_pos bl];rfl);subst bl;have bm:u=false/\a'=N.a:=by
      rcases i' Z with ⟨_,h,_⟩|⟨_,h,_⟩|⟨_,h,h2,h3⟩
      ·exact absurd h (by decide)
      ·exact absurd h (by decide)
      ·exact⟨h3,by rw[h2];unfold ai';rw[if_neg (by rw[<-h];decide)]⟩
     have bL:=uq' a' (N:=10000000) (fun s hs=>by rw[bm.2];have h1:=bR s hs;omega);have aH:Hid (∀y:World,Below F.heap.size F y->∀j:Nat,Calls Tryz.prog 26 #[y' f.va, .int .i64 j] y fun ab w'=>∃aO cap,ab= .returned (.slice aO (au' a' j).length cap)/\Below y.heap.size y w'):=t' (fun y U j=>by
      have h1:AgE f.da y f.va f.a f.ua:=((i' r).below U).at_ 1;have ai:f.da=false:=by have e:=congrArg Pl.da (i' X);exact e.trans bm.1
      have aZ:f.a=a':=congrArg Pl.a (i' X);rw[ai,aZ]at h1;refine(h1.spool j).mono ?_;rintro ab w' ⟨lv,rfl,Q,I⟩;obtain⟨aO,cap,bk,_⟩:=(al' Q).shape;exact⟨aO,cap,by rw[bk],I⟩)
     have c0:F.cell? ⟨p,0,none⟩=some (y' f.va):=(i' r).cell rfl;have bf:=((i' r).lt 0 p rfl).2;have cn:=t' (up' a');have bM:=t' c0;clear bm c0 aM aN;unfold y' at bM aH;go_wp2;go_loopw[7,8] (fun k i wr=>∃j:Nat,j<=3/\i= .int .i64 j/\k= .int .i64 (spK a' j:Nat)/\Below F.heap.size F wr) (fun _ i _=>3 - (intOf i).toNat)
     case atStart=>exact⟨0,by omega,rfl,rfl,Below.refl _ _⟩
     case round=>
      obtain⟨j,hj,rfl,rfl,ap⟩:=hrel;have h1:=bL j hj;by_cases de:j < 3
      ·have df:(j:Int) < 3:=by omega
       have h2:=bL (j+1) (by omega);have c0:=(ap.cell (p:=⟨p,0,none⟩) bf).trans (i' bM);have ad:=t' ap;have aP:=t' (show spK a' (j+1)=spK a' j+(au' a' j).length from rfl);rw[i' aP]at h2;obtain⟨bn,bN⟩:∃bn,bn=spK a' j:=⟨_,rfl⟩;obtain⟨bo,bO⟩:∃bo,bo=(au' a' j).length:=⟨_,rfl⟩;have bP:=t' ((i' aH) wr ap j);rw[<-bO]at bP h2 aP;rw[<-bN]at aP h1 h2 ⊢;have h3:bn+bo<=30000000:=by omega
       clear ap bN bO h1 h2;go_wp2_with (go_at_call 26;refine(i' bP).mono ?_;rintro ab y ⟨aO,cap,rfl,U⟩;replace ad:=t' ((i' ad).trans (U.mono (i' ad).size));clear U);go_roundw
       case rel=>exact⟨j+1,by omega,by go_num,by rw[i' aP];go_num,i' ad⟩
       case measure=>simp[intOf];omega
      ·have co:j=3:=by omega
       subst co;rw[i' cn]at h1 ⊢;obtain⟨aB,bp⟩:∃aB,aB=a'.room:=⟨_,rfl⟩;have cp:=t' bp;rw[<-bp]at h1 ⊢;have ad:=t' ap;clear ap bp;go_wp2;go_ret;refine⟨_,_,rfl, .inr ⟨aj,7,u,a',i' Z,by rw[i' G,<-i' cp];simp[show(((aB:Nat):Int) ==24)=decide (aB=24) from by by_cases h:aB=24 <;> simp[h] <;> omega],by rw[i' G]⟩,⟨f,(i' r).below (i' ad),i' X⟩,(i' J).behind ((i' ad).mono (i' J).size)⟩
    ·have G:=t' (show im' i N.pl e u a'=(N.fa&&decide (e=3),{N.pl with a:=a',da:=u,made:=N.made+1}) by unfold im';rw[if_neg h0,if_neg h4,if_neg bl];rfl);clear aN;cases aC:N.fa
     ·rw[aC]at aM;go_wp2;go_ret;exact⟨_,_,rfl, .inr ⟨aj,e,u,a',i' Z,by rw[i' G,aC];rfl,by rw[i' G]⟩,⟨f,i' r,i' X⟩,i' J⟩
     ·rw[aC]at aM;by_cases h3:e=3
      ·subst h3;go_wp2;go_ret;exact⟨_,_,rfl, .inr ⟨aj,3,u,a',i' Z,by rw[i' G,aC];rfl,by rw[i' G]⟩,⟨f,i' r,i' X⟩,i' J⟩
      ·go_wp2;go_ret;exact⟨_,_,rfl, .inr ⟨aj,e,u,a',i' Z,by rw[i' G,aC];simp[h3],by rw[i' G]⟩,⟨f,i' r,i' X⟩,i' J⟩
end Go.Proofs.YtamafdcnbcoegaaGreat
