/-
  Part 19 of a proof: SF2, SF3, SF10A, CPY, N3, N4, N5, N6, SF4, SF9, SF8, SF6, SF5.
-/
import Derived.Test.YtamafdcnbcoegabGreatCm18
set_option maxRecDepth 100000
set_option maxHeartbeats 40000000
namespace Go.Proofs.YtamafdcnbcoegabGreat
open Go.RowKit
structure bd' where
 va:Nat
 vs:Nat
 a:Mod.Ag
 da:Bool
 ua:Nat->Prop
 s:Mod.Sk
 ds:Bool
 us:Nat->Prop
 upv:Value
 up:List (Value×List UInt8)
 dnv:Value
 dn:List (Value×List UInt8)
 tv:Nat->Value
 T:Nat->List ByteArray
 made:Nat
 stream:Nat
 may:ByteArray
 seen:Nat->Nat
 fa:Bool
 fs:Bool
 ov:Value
 ol:List Value
 oF:List ByteArray
def bu' (N:bd'):Array Value:= #[A' N.va,A' N.vs,N.upv,N.dnv,N.tv 0,N.tv 1,N.tv 2, .int .i64 N.made, .int .i64 N.stream, .string N.may, .int .i64 (N.seen 0:Nat), .int .i64 (N.seen 1:Nat), .int .i64 (N.seen 2:Nat), .bool N.fa, .bool N.fs]
def lU' (B K p:Nat) (N:bd'):Nat->World->Prop
 |0=>fun w=>w.heap[p]? =some (.cells (bu' N) 37 (0,0))
 |1=>fun w=>AgE N.da w N.va N.a N.ua
 |2=>fun w=>SkE K N.ds w N.vs N.s N.us
 |3=>fun w=>w.ownsRow B 48 1 N.upv N.up.length (N.up.map (·.1))
 |4=>fun w=>w.ownsRow B 48 1 N.dnv N.dn.length (N.dn.map (·.1))
 |5=>fun w=>w.ownsRow B 9 1 (N.tv 0) (N.T 0).length (aV' (N.T 0))
 |6=>fun w=>w.ownsRow B 9 1 (N.tv 1) (N.T 1).length (aV' (N.T 1))
 |7=>fun w=>w.ownsRow B 9 1 (N.tv 2) (N.T 2).length (aV' (N.T 2))
 |8=>fun w=>∀f∈N.up++N.dn,ax' B w f.1 f.2
 |9=>fun w=>Q' B w N.ov N.ol N.oF (fun _=>False)
 | _=>fun _=>True
def do' (p:Nat) (N:bd'):Nat->Nat->Prop
 |0=>fun k=>k=p
 |1=>N.ua
 |2=>N.us
 |3=>fun k=>N.upv.ownBlock=some k
 |4=>fun k=>N.dnv.ownBlock=some k
 |5=>fun k=>(N.tv 0).ownBlock=some k
 |6=>fun k=>(N.tv 1).ownBlock=some k
 |7=>fun k=>(N.tv 2).ownBlock=some k
 |8=>fun k=>∃f∈N.up++N.dn,f.1.ownBlock=some k
 |9=>fun k=>N.ov.ownBlock=some k\/pB' N.ol N.ol.length k
 | _=>fun _=>False
structure Net (B K p:Nat) (w:World) (N:bd'):Prop where
 at_:∀i,lU' B K p N i w
 lt:∀i k,do' p N i k->B<=k/\k < w.heap.size
 ne:∀i j k,i≠j->do' p N i k->¬do' p N j k
section
variable {B K K' p:Nat} {w y:World} {N N':bd'}
theorem iJ' {E:Nat->Prop} {i:Nat} (h:lU' B K p N i w) (F:∀k,do' p N i k->k < w.heap.size) (z:Far E w y) (D:∀k,do' p N i k->¬E k):lU' B K p N i y:=by
 rcases i with _| _| _| _| _| _| _| _| _| _|i
 ·exact z.blk h (D p rfl)
 ·exact AgE.far h z D
 ·exact SkE.far h z D
 ·exact R' h (fun g r=>z.rest g (F g r) (D g r))
 ·exact R' h (fun g r=>z.rest g (F g r) (D g r))
 ·exact R' h (fun g r=>z.rest g (F g r) (D g r))
 ·exact R' h (fun g r=>z.rest g (F g r) (D g r))
 ·exact R' h (fun g r=>z.rest g (F g r) (D g r))
 ·exact fun f G=>R' (h f G) (fun g r=>z.rest g (F g ⟨f,G,r⟩) (D g ⟨f,G,r⟩))
 ·exact Q'.keep h (fun k H=>z.rest k (F k H) (D k H))
 ·trivial
theorem Net.hB (r:Net B K p w N):B<=w.heap.size:=by
 have:=r.lt 0 p rfl;omega
theorem Net.many (r:Net B K p w N) (S:List Nat) (hF:Far (fun k=>∃i∈S,do' p N i k) w y) (D:∀j,j∉S->do' p N' j=do' p N j/\∀H,lU' B K p N j H->lU' B K' p N' j H)
  (I:∀i∈S,lU' B K' p N' i y) (G:∀i∈S,∀k,do' p N' i k->(do' p N i k\/w.heap.size<=k)/\k < y.heap.size) (J:∀i∈S,∀j∈S,∀k,i≠j->do' p N' i k->¬do' p N' j k):Net B K' p y N':=by
 have O:=r.hB;have Q:=hF.size;refine⟨fun i=>?_,fun i k z=>?_,fun i j k F hi hj=>?_⟩
 ·by_cases hi:i∈S
  ·exact I i hi
  ·exact(D i hi).2 _ (iJ' (r.at_ i) (fun k z=>(r.lt i k z).2) hF (fun k z=>by rintro⟨q,M,e⟩;exact r.ne i q k (fun e=>hi (e ▸ M)) z e))
 ·by_cases hi:i∈S
  ·obtain⟨h1|h1,h2⟩:=G i hi k z
   ·exact⟨(r.lt i k h1).1,h2⟩
   ·exact⟨by omega,h2⟩
  ·rw[(D i hi).1]at z;have:=r.lt i k z;omega
 ·by_cases h1:i∈S
  ·by_cases h2:j∈S
   ·exact J i h1 j h2 k F hi hj
   ·rw[(D j h2).1]at hj;rcases(G i h1 k hi).1 with e|e
    ·exact r.ne i j k F e hj
    ·have:=r.lt j k hj;omega
  ·rw[(D i h1).1]at hi;by_cases h2:j∈S
   ·rcases(G j h2 k hj).1 with e|e
    ·exact r.ne i j k F hi e
    ·have:=r.lt i k hi;omega
   ·rw[(D j h2).1]at hj;exact r.ne i j k F hi hj
theorem Net.below (r:Net B K p w N) (z:Below w.heap.size w y):Net B K p y N:=
 r.many [] (C' z) (fun _ _=>⟨rfl,fun _ h=>h⟩) (fun _ h=>by simp at h) (fun _ h=>by simp at h) (fun _ h=>by simp at h)
theorem Net.mono (r:Net B K p w N) (hK:K<=K'):Net B K' p w N:=
 r.many [] (Far.refl _ _) (fun j _=>⟨rfl,fun _ h=>by
  rcases j with _| _| _| _| _| _| _| _| _| _|j
  case succ.succ.zero=>exact SkE.mono h hK
  all_goals exact h⟩) (fun _ h=>by simp at h) (fun _ h=>by simp at h) (fun _ h=>by simp at h)
theorem Net.agent (F:Net B K p w N) {d:Bool} {a:Mod.Ag} {r:Nat->Prop} (z:AgE d y N.va a r) (hF:Far N.ua w y) (G:∀k,r k->N.ua k\/w.heap.size<=k):Net B K p y {N with a:=a,da:=d,ua:=r}:=
 F.many [1] (hF.mono (fun k _ h=>⟨1, .head _,h⟩)) (fun j hj=>by
  rcases j with _| _| _| _| _| _| _| _| _| _|j
  case succ.zero=>simp at hj
  all_goals exact⟨rfl,fun _ h=>h⟩)
  (fun i hi=>by simp at hi;subst hi;exact z)
  (fun i hi k D=>by simp at hi;subst hi;exact⟨G k D,z.lt k D⟩)
  (fun i hi j hj k H=>by simp at hi hj;omega)
theorem Net.sinkS (F:Net B K p w N) {d:Bool} {s:Mod.Sk} {r:Nat->Prop} (z:SkE K' d y N.vs s r) (hF:Far N.us w y) (G:∀k,r k->N.us k\/w.heap.size<=k):Net B K' p y {N with s:=s,ds:=d,us:=r}:=
 F.many [2] (hF.mono (fun k _ h=>⟨2, .head _,h⟩)) (fun j hj=>by
  rcases j with _| _| _| _| _| _| _| _| _| _|j
  case succ.succ.zero=>simp at hj
  all_goals exact⟨rfl,fun _ h=>h⟩)
  (fun i hi=>by simp at hi;subst hi;exact z)
  (fun i hi k D=>by simp at hi;subst hi;exact⟨G k D,z.lt k D⟩)
  (fun i hi j hj k H=>by simp at hi hj;omega)
theorem Net.agentO (F:Net B K p w N) {d:Bool} {a:Mod.Ag} {z:Nat->Prop} {lv:Value} {l:List Value} {G:List ByteArray} (r:Q' w.heap.size y lv l G z) (H:AgE d y N.va a z) (hF:Far N.ua w y) (J:∀k,z k->N.ua k\/w.heap.size<=k):
  Net B K p y {N with a:=a,da:=d,ua:=z,ov:=lv,ol:=l,oF:=G}:=
 F.many [1,9] (hF.mono (fun k _ h=>⟨1, .head _,h⟩)) (fun j hj=>by
  rcases j with _| _| _| _| _| _| _| _| _| _|j
  case succ.zero=>simp at hj
  case succ.succ.succ.succ.succ.succ.succ.succ.succ.zero=>simp at hj
  all_goals exact⟨rfl,fun _ h=>h⟩)
  (fun i hi=>by
   simp at hi;rcases hi with rfl|rfl
   ·exact H
   ·exact r.off.up F.hB (fun _ e=>e.elim))
  (fun i hi k D=>by
   simp at hi;rcases hi with rfl|rfl
   ·exact⟨J k D,H.lt k D⟩
   ·exact⟨.inr (r.lt k D).1,(r.lt k D).2⟩)
  (fun i hi j hj k I h1 h2=>by
   simp at hi hj;rcases hi with rfl|rfl <;> rcases hj with rfl|rfl
   ·exact I rfl
   ·exact r.clear k h2 h1
   ·exact r.clear k h1 h2
   ·exact I rfl)
theorem Net.sinkO (F:Net B K p w N) {d:Bool} {s:Mod.Sk} {z:Nat->Prop} {lv:Value} {l:List Value} {G:List ByteArray} (r:Q' w.heap.size y lv l G z) (H:SkE K' d y N.vs s z) (hF:Far N.us w y) (J:∀k,z k->N.us k\/w.heap.size<=k):
  Net B K' p y {N with s:=s,ds:=d,us:=z,ov:=lv,ol:=l,oF:=G}:=
 F.many [2,9] (hF.mono (fun k _ h=>⟨2, .head _,h⟩)) (fun j hj=>by
  rcases j with _| _| _| _| _| _| _| _| _| _|j
  case succ.succ.zero=>simp at hj
  case succ.succ.succ.succ.succ.succ.succ.succ.succ.zero=>simp at hj
  all_goals exact⟨rfl,fun _ h=>h⟩)
  (fun i hi=>by
   simp at hi;rcases hi with rfl|rfl
   ·exact H
   ·exact r.off.up F.hB (fun _ e=>e.elim))
  (fun i hi k D=>by
   simp at hi;rcases hi with rfl|rfl
   ·exact⟨J k D,H.lt k D⟩
   ·exact⟨.inr (r.lt k D).1,(r.lt k D).2⟩)
  (fun i hi j hj k I h1 h2=>by
   simp at hi hj;rcases hi with rfl|rfl <;> rcases hj with rfl|rfl
   ·exact I rfl
   ·exact r.clear k h2 h1
   ·exact r.clear k h1 h2
   ·exact I rfl)
theorem Net.store (r:Net B K p w N) {j:Nat} {v:Value} (F:bu' N'=(bu' N).setIfInBounds j v) (G:∀j,j≠0->do' p N' j=do' p N j/\∀D,lU' B K p N j D->lU' B K p N' j D):Net B K p (w.setCell ⟨p,j,none⟩ v) N':=
 r.many [0] ((S' w p j v).mono (fun k _ h=>⟨0, .head _,h⟩)) (fun j hj=>G j (by simpa using hj))
  (fun i hi=>by simp at hi;subst hi;have:=ah' (j:=j) (v:=v) (r.at_ 0);rw[<-F]at this;exact this)
  (fun i hi k z=>by simp at hi;subst hi;have z:k=p:=z;subst z;exact⟨.inl rfl,by rw[World.size_setCell];exact(r.lt 0 k rfl).2⟩)
  (fun i hi j hj k H=>by simp at hi hj;omega)
theorem Net.cell (r:Net B K p w N) {j:Nat} {v:Value} (hj:(bu' N)[j]? =some v):w.cell? ⟨p,j,none⟩=some v:=by
 have:=t' (i:=j) (r.at_ 0);rw[hj]at this;exact this
theorem Net.put (F:Net B K p w N) {r:World} (S:List Nat) (h0:0∉S) (hF:Far (fun k=>∃i∈S,do' p N i k) w r) (O:∀j,j≠0->j∉S->do' p N' j=do' p N j/\∀r,lU' B K p N j r->lU' B K p N' j r)
  (Q:∀i∈S,lU' B K p N' i r) (G:∀i∈S,∀k,do' p N' i k->(do' p N i k\/w.heap.size<=k)/\k < r.heap.size) (U:∀i∈S,∀j∈S,∀k,i≠j->do' p N' i k->¬do' p N' j k)
  {j:Nat} {v:Value} (V:bu' N'=(bu' N).setIfInBounds j v):Net B K p (r.setCell ⟨p,j,none⟩ v) N':=by
 have H:∀i∈S,¬do' p N' i p:=fun i hi e=>by
  rcases(G i hi p e).1 with h|h
  ·exact F.ne 0 i p (fun e=>h0 (e ▸ hi)) rfl h
  ·have:=F.lt 0 p rfl;omega
 have I:=S' r p j v;have J:r.heap[p]? =some (.cells (bu' N) 37 (0,0)):=hF.blk (F.at_ 0) (fun⟨i,hi,e⟩=>F.ne 0 i p (fun e=>h0 (e ▸ hi)) rfl e);refine F.many (0::S) ((hF.mono (fun k _ ⟨i,hi,e⟩=>⟨i, .tail _ hi,e⟩)).trans (E:=fun k=>∃i∈0::S,do' p N i k) I (fun k _ e=>⟨0, .head _,e⟩)) (fun j hj=>O j (fun e=>hj (e ▸ .head _)) (fun h=>hj (.tail _ h))) ?_ ?_ ?_
 ·intro i hi;cases hi with
  |head=>have:=ah' (j:=j) (v:=v) J;rw[<-V]at this;exact this
  |tail _ hi=>exact iJ' (Q i hi) (fun k z=>(G i hi k z).2) I (fun k z e=>by have e:k=p:=e;subst e;exact H i hi z)
 ·intro i hi k z;rw[World.size_setCell];cases hi with
  |head=>have z:k=p:=z;subst z;exact⟨.inl rfl,lt_of_block J⟩
  |tail _ hi=>exact G i hi k z
 ·intro i hi q D k M h1 h2;cases hi with
  |head=>
   have h1:k=p:=h1;subst h1;cases D with
   |head=>exact M rfl
   |tail _ D=>exact H q D h2
  |tail _ hi=>
   cases D with
   |head=>have h2:k=p:=h2;subst h2;exact H i hi h1
   |tail _ D=>exact U i hi q D k M h1 h2
def bd'.take (N:bd') (s:Nat) (v:Value) (b:ByteArray):bd':={N with tv:=fun t=>if t=s then v else N.tv t,T:=fun t=>if t=s then N.T s++[b]else N.T t}
theorem Net.take (F:Net B K p w N) {s:Nat} (hs:s < 3) {z:World} {v:Value} {b:ByteArray} (hF:Far (fun k=>(N.tv s).ownBlock=some k) w z) (D:z.ownsRow B 9 1 v ((N.T s).length+1) (aV' (N.T s)++[.string b]))
  (hl:∀k,v.ownBlock=some k->(N.tv s).ownBlock=some k\/w.heap.size<=k):Net B K p (z.setCell ⟨p,4+s,none⟩ v) (N.take s v b):=by
 have G:z.ownsRow B 9 1 v (N.T s++[b]).length (aV' (N.T s++[b])):=by rw[List.length_append,show aV' (N.T s++[b])=aV' (N.T s)++[.string b] by simp[aV']];exact D
 obtain rfl|rfl|rfl:s=0\/s=1\/s=2:=by omega
 ·refine F.put [5] (by simp) (hF.mono (fun k _ e=>⟨5, .head _,e⟩)) (fun j h0 hj=>?_) (fun i hi=>?_) (fun i hi k r=>?_) (fun i hi j hj k H=>by simp at hi hj;omega) rfl
  ·rcases j with _| _| _| _| _| _| _| _| _| _|j
   case succ.succ.succ.succ.succ.zero=>simp at hj
   all_goals first|exact⟨rfl,fun _ h=>h⟩|exact absurd rfl h0
  ·simp at hi;subst hi;exact G
  ·simp at hi;subst hi;exact⟨hl k r,(World.ownsRow.lt D k r).2⟩
 ·refine F.put [6] (by simp) (hF.mono (fun k _ e=>⟨6, .head _,e⟩)) (fun j h0 hj=>?_) (fun i hi=>?_) (fun i hi k r=>?_) (fun i hi j hj k H=>by simp at hi hj;omega) rfl
  ·rcases j with _| _| _| _| _| _| _| _| _| _|j
   case succ.succ.succ.succ.succ.succ.zero=>simp at hj
   all_goals first|exact⟨rfl,fun _ h=>h⟩|exact absurd rfl h0
  ·simp at hi;subst hi;exact G
  ·simp at hi;subst hi;exact⟨hl k r,(World.ownsRow.lt D k r).2⟩
 ·refine F.put [7] (by simp) (hF.mono (fun k _ e=>⟨7, .head _,e⟩)) (fun j h0 hj=>?_) (fun i hi=>?_) (fun i hi k r=>?_) (fun i hi j hj k H=>by simp at hi hj;omega) rfl
  ·rcases j with _| _| _| _| _| _| _| _| _| _|j
   case succ.succ.succ.succ.succ.succ.succ.zero=>simp at hj
   all_goals first|exact⟨rfl,fun _ h=>h⟩|exact absurd rfl h0
  ·simp at hi;subst hi;exact G
  ·simp at hi;subst hi;exact⟨hl k r,(World.ownsRow.lt D k r).2⟩
def bd'.pushU (N:bd') (v u:Value) (l:List UInt8):bd':={N with upv:=v,up:=N.up++[(u,l)]}
def bd'.pushD (N:bd') (v u:Value) (l:List UInt8):bd':={N with dnv:=v,dn:=N.dn++[(u,l)]}
theorem su' {x:Value×List UInt8} {A C:List (Value×List UInt8)} {f:Value×List UInt8} (h:f∈ (A++[x])++C):f=x\/f∈A++C:=by
 simp only[List.mem_append,List.mem_singleton]at h ⊢;rcases h with (h|h)|h
 ·exact .inr (.inl h)
 ·exact .inl h
 ·exact .inr (.inr h)
theorem sv' {x:Value×List UInt8} {A C:List (Value×List UInt8)} {f:Value×List UInt8} (h:f∈A++(C++[x])):f=x\/f∈A++C:=by
 simp only[List.mem_append,List.mem_singleton]at h ⊢;rcases h with h|h|h
 ·exact .inr (.inl h)
 ·exact .inr (.inr h)
 ·exact .inl h
theorem Net.pushU (z:Net B K p w N) {F:World} {v u:Value} {l:List UInt8} (hF:Far (fun k=>N.upv.ownBlock=some k) w F) (G:F.ownsRow B 48 1 v (N.up.length+1) (N.up.map (·.1)++[u]))
  (hl:∀k,v.ownBlock=some k->N.upv.ownBlock=some k\/w.heap.size<=k) (H:ax' w.heap.size F u l):Net B K p (F.setCell ⟨p,2,none⟩ v) (N.pushU v u l):=by
 have I:=H.lt;refine z.put [3,8] (by simp) (hF.mono (fun k _ e=>⟨3, .head _,e⟩)) (fun j h0 hj=>?_) (fun i hi=>?_) (fun i hi k D=>?_) (fun i hi j hj k J h1 h2=>?_) rfl
 ·rcases j with _| _| _| _| _| _| _| _| _| _|j
  case succ.succ.succ.zero=>simp at hj
  case succ.succ.succ.succ.succ.succ.succ.succ.zero=>simp at hj
  all_goals first|exact⟨rfl,fun _ h=>h⟩|exact absurd rfl h0
 ·simp at hi;rcases hi with rfl|rfl
  ·show F.ownsRow B 48 1 v (N.up++[(u,l)]).length ((N.up++[(u,l)]).map (·.1));rw[List.length_append,List.map_append];exact G
  ·intro f r;rcases su' r with rfl|r
   ·exact H.mono z.hB
   ·exact iJ' (z.at_ 8) (fun k D=>(z.lt 8 k D).2) hF (fun k D e=>z.ne 3 8 k (by decide) e D) f r
 ·simp at hi;rcases hi with rfl|rfl
  ·exact⟨hl k D,(World.ownsRow.lt G k D).2⟩
  ·obtain⟨f,r,e⟩:=D;rcases su' r with rfl|r
   ·exact⟨.inr (I k e).1,(I k e).2⟩
   ·have:=(z.lt 8 k ⟨f,r,e⟩).2;have:=hF.size;exact⟨.inl ⟨f,r,e⟩,by omega⟩
 ·have key:∀k,v.ownBlock=some k->¬ ∃f∈ (N.up++[(u,l)])++N.dn,f.1.ownBlock=some k:=by
   rintro k h1 ⟨f,r,e⟩;rcases su' r with rfl|r
   ·obtain⟨c1,M⟩:∃c,F.heap[k]? =some (.cells c 48 (0,0)):=by
     rcases G.2 with ⟨rfl,_⟩|⟨g,cap,Q,rfl,_,O,_⟩
     ·cases h1
     ·injection h1 with h1;subst h1;exact⟨_,O⟩
    exact(aq' H).ne M (by decide) e
   ·rcases hl k h1 with h3|h3
    ·exact z.ne 3 8 k (by decide) h3 ⟨f,r,e⟩
    ·have:=(z.lt 8 k ⟨f,r,e⟩).2;omega
  simp at hi hj;rcases hi with rfl|rfl <;> rcases hj with rfl|rfl
  ·exact J rfl
  ·exact key k h1 h2
  ·exact key k h2 h1
  ·exact J rfl
theorem Net.pushD (z:Net B K p w N) {F:World} {v u:Value} {l:List UInt8} (hF:Far (fun k=>N.dnv.ownBlock=some k) w F) (G:F.ownsRow B 48 1 v (N.dn.length+1) (N.dn.map (·.1)++[u]))
  (hl:∀k,v.ownBlock=some k->N.dnv.ownBlock=some k\/w.heap.size<=k) (H:ax' w.heap.size F u l):Net B K p (F.setCell ⟨p,3,none⟩ v) (N.pushD v u l):=by
 have I:=H.lt;refine z.put [4,8] (by simp) (hF.mono (fun k _ e=>⟨4, .head _,e⟩)) (fun j h0 hj=>?_) (fun i hi=>?_) (fun i hi k D=>?_) (fun i hi j hj k J h1 h2=>?_) rfl
 ·rcases j with _| _| _| _| _| _| _| _| _| _|j
  case succ.succ.succ.succ.zero=>simp at hj
  case succ.succ.succ.succ.succ.succ.succ.succ.zero=>simp at hj
  all_goals first|exact⟨rfl,fun _ h=>h⟩|exact absurd rfl h0
 ·simp at hi;rcases hi with rfl|rfl
  ·show F.ownsRow B 48 1 v (N.dn++[(u,l)]).length ((N.dn++[(u,l)]).map (·.1));rw[List.length_append,List.map_append];exact G
  ·intro f r;rcases sv' r with rfl|r
   ·exact H.mono z.hB
   ·exact iJ' (z.at_ 8) (fun k D=>(z.lt 8 k D).2) hF (fun k D e=>z.ne 4 8 k (by decide) e D) f r
 ·simp at hi;rcases hi with rfl|rfl
  ·exact⟨hl k D,(World.ownsRow.lt G k D).2⟩
  ·obtain⟨f,r,e⟩:=D;rcases sv' r with rfl|r
   ·exact⟨.inr (I k e).1,(I k e).2⟩
   ·have:=(z.lt 8 k ⟨f,r,e⟩).2;have:=hF.size;exact⟨.inl ⟨f,r,e⟩,by omega⟩
 ·have key:∀k,v.ownBlock=some k->¬ ∃f∈N.up++(N.dn++[(u,l)]),f.1.ownBlock=some k:=by
   rintro k h1 ⟨f,r,e⟩;rcases sv' r with rfl|r
   ·obtain⟨c1,M⟩:∃c,F.heap[k]? =some (.cells c 48 (0,0)):=by
     rcases G.2 with ⟨rfl,_⟩|⟨g,cap,Q,rfl,_,O,_⟩
     ·cases h1
     ·injection h1 with h1;subst h1;exact⟨_,O⟩
    exact(aq' H).ne M (by decide) e
   ·rcases hl k h1 with h3|h3
    ·exact z.ne 4 8 k (by decide) h3 ⟨f,r,e⟩
    ·have:=(z.lt 8 k ⟨f,r,e⟩).2;omega
  simp at hi hj;rcases hi with rfl|rfl <;> rcases hj with rfl|rfl
  ·exact J rfl
  ·exact key k h1 h2
  ·exact key k h2 h1
  ·exact J rfl
theorem Net.newA (G:Net B K p w N) {r:World} {va:Nat} {a:Mod.Ag} {z:Nat->Prop} (H:Below w.heap.size w r) (D:AgE false r va a z) (I:∀k,z k->w.heap.size<=k):Net B K p (r.setCell ⟨p,0,none⟩ (A' va)) {N with va:=va,a:=a,da:=false,ua:=z}:=by
 refine G.put [1] (by simp) (C' H) (fun j h0 hj=>?_) (fun i hi=>?_) (fun i hi k F=>?_) (fun i hi j hj k J=>by simp at hi hj;omega) rfl
 ·rcases j with _| _| _| _| _| _| _| _| _| _|j
  case succ.zero=>simp at hj
  all_goals first|exact⟨rfl,fun _ h=>h⟩|exact absurd rfl h0
 ·simp at hi;subst hi;exact D
 ·simp at hi;subst hi;exact⟨.inr (I k F),D.lt k F⟩
theorem Net.newS (G:Net B K p w N) {r:World} {vs:Nat} {s:Mod.Sk} {z:Nat->Prop} (H:Below w.heap.size w r) (D:SkE K false r vs s z) (I:∀k,z k->w.heap.size<=k):Net B K p (r.setCell ⟨p,1,none⟩ (A' vs)) {N with vs:=vs,s:=s,ds:=false,us:=z}:=by
 refine G.put [2] (by simp) (C' H) (fun j h0 hj=>?_) (fun i hi=>?_) (fun i hi k F=>?_) (fun i hi j hj k J=>by simp at hi hj;omega) rfl
 ·rcases j with _| _| _| _| _| _| _| _| _| _|j
  case succ.succ.zero=>simp at hj
  all_goals first|exact⟨rfl,fun _ h=>h⟩|exact absurd rfl h0
 ·simp at hi;subst hi;exact D
 ·simp at hi;subst hi;exact⟨.inr (I k F),D.lt k F⟩
end
structure Pl where
 a:Mod.Ag
 da:Bool
 s:Mod.Sk
 ds:Bool
 up:List (List UInt8)
 dn:List (List UInt8)
 T:Nat->List ByteArray
 made:Nat
 stream:Nat
 may:ByteArray
 seen:Nat->Nat
 fa:Bool
 fs:Bool
def bd'.pl (N:bd'):Pl:=⟨N.a,N.da,N.s,N.ds,N.up.map (·.2),N.dn.map (·.2),N.T,N.made,N.stream,N.may,N.seen,N.fa,N.fs⟩
def cx' (B K p:Nat) (w:World) (P:Pl):Prop:=∃N,Net B K p w N/\N.pl=P
structure dx' (b:Nat) (P:Pl):Prop where
 ag:aL' b P.a
 sk:aw' P.s
 ep:P.a.epoch<=b+1
 made:P.made<=b
 room:(P.T 0).length+(P.T 1).length+(P.T 2).length<=100
 up:P.up.length<=12 * b
 dn:P.dn.length<=12 * b
 upl:∀l∈P.up,0 < l.length/\l.length<=1000
 dnl:∀l∈P.dn,0 < l.length/\l.length<=1000
 lim:b<=10000000
theorem Net.put1 {B K p:Nat} {w:World} {N:bd'} (r:Net B K p w N) (made stream:Nat) (may:ByteArray) (seen:Nat->Nat) (fa fs:Bool) {j:Nat} {v:Value} (z:bu' {N with made:=made,stream:=stream,may:=may,seen:=seen,fa:=fa,fs:=fs}=(bu' N).setIfInBounds j v):
  Net B K p (w.setCell ⟨p,j,none⟩ v) {N with made:=made,stream:=stream,may:=may,seen:=seen,fa:=fa,fs:=fs}:=
 r.store z (fun j hj=>by rcases j with _| _| _| _| _| _| _| _| _| _|j;all_goals first|exact absurd rfl hj|exact⟨rfl,fun _ h=>h⟩)
def taP (P:Pl) (e:Int) (r:Bool) (a':Mod.Ag):Bool×Pl:=
 if e=4 then(true,{P with a:=a',da:=r,fa:=true})else(decide (e=0) ||P.fa&&decide (e=3),{P with a:=a',da:=r})
def TaR (l:List UInt8) (P:Pl) (v:Value) (z:Pl):Prop:=∃ (e:Int) (r:Bool) (a':Mod.Ag),vL' l P.da P.a e r a'/\v= .bool (taP P e r a').1/\z=(taP P e r a').2
def dy' (B K p:Nat) (w:World) (R:Value->Pl->Prop) (z:Ending) (w':World):Prop:=∃v r,z= .returned v/\R v r/\cx' B K p w' r/\Far (fun k=>B<=k) w w'
theorem qQ' {B K p b:Nat} {w:World} {P:Pl} (r:cx' B K p w P) (J:dx' b P) (bs:Value) (l:List UInt8) (M:ab' w bs l):
  Calls Tryz.prog 39 #[.pointer (some ⟨p,0,none⟩),bs] w (dy' B K p w (TaR l P)):=by
 obtain⟨N,r,rfl⟩:=r;have c0:=r.cell (j:=0) rfl;have O:AgE N.da w N.va N.a N.ua:=r.at_ 1;have V:=y' (O.deliver bs l J.ag (by have:=J.lim;omega) M);have Q:=y' r;have X:=y' (fun k Y=>(r.lt 1 k Y).1);have Z:=y' (r.lt 0 p rfl).1;clear r O J M;go_enter Tryz.func39,Tryz.ntmps39;go_upto_region 2 with (go_at_call 16;refine(i' V).mono ?_;rintro aa x ⟨e,D,a',U',rfl,k1,k2,k3,k4⟩;have I:=(i' Q).agent k1 k2 k3;have F:Far (fun k=>B<=k) w x:=k2.mono (fun k _ h=>(i' X) k h);clear k1 k2 k3;replace k4:=y' k4;replace F:=y' F);have U:=I.cell (j:=13) rfl;have ab:=I' (i:=13) (I.at_ 0);have G:=y' I;clear I c0 Q;by_cases h4:e=4
 ·subst h4;go_wp2;go_ret;exact⟨_,_,rfl,⟨4,D,a',i' k4,rfl,rfl⟩,⟨_,(i' G).put1 N.made N.stream N.may N.seen true N.fs rfl,rfl⟩,(i' F).trans (S' _ _ _ _) (fun k _ e=>by have e:k=p:=e;subst e;exact i' Z)⟩
 ·have z:(taP N.pl e D a')=(decide (e=0) ||N.fa&&decide (e=3),{N.pl with a:=a',da:=D}):=by unfold taP;rw[if_neg h4];rfl
  by_cases h0:e=0
  ·subst h0;go_wp2;go_ret;exact⟨_,_,rfl,⟨0,D,a',i' k4,by rw[z];simp,rfl⟩,⟨_,i' G,by rw[z];rfl⟩,i' F⟩
  ·cases H:N.fa
   ·simp only[bu',H]at U;go_wp2;go_ret;exact⟨_,_,rfl,⟨e,D,a',i' k4,by rw[z,H];simp[h0],rfl⟩,⟨_,i' G,by rw[z];rfl⟩,i' F⟩
   ·simp only[bu',H]at U;by_cases h3:e=3
    ·subst h3;go_wp2;go_ret;exact⟨_,_,rfl,⟨3,D,a',i' k4,by rw[z,H];simp,rfl⟩,⟨_,i' G,by rw[z];rfl⟩,i' F⟩
    ·go_wp2;go_ret;exact⟨_,_,rfl,⟨e,D,a',i' k4,by rw[z,H];simp[h0,h3],rfl⟩,⟨_,i' G,by rw[z];rfl⟩,i' F⟩
theorem iK' {w y:World} {v:Value} {xs:List Value} (h:ha' w v xs) (r:Below w.heap.size w y):ha' y v xs:=by
 obtain⟨z,cap,e,h1,h2,h3⟩:=h;refine⟨z,cap,e,h1,h2,fun h0=>?_⟩;obtain⟨g,o,D,h4,h5⟩:=h3 h0;exact⟨g,o,D,Nat.lt_of_lt_of_le h4 r.size,fun i hi=>(r.cell (p:=⟨g,o+i,none⟩) h4).trans (h5 i hi)⟩
theorem lV' (v:Value) (l:List UInt8) (w:World) (z:ab' w v l) (hl:0 < l.length) (I:l.length<=281474976710656):
  Calls Tryz.prog 63 #[v] w fun J w'=>∃D,J= .returned D/\ax' w.heap.size w' D l/\Below w.heap.size w w':=by
 have F:=y' z;obtain⟨aa,cap,rfl,ab,ac,M⟩:=z;clear M;go_enter Tryz.func63,Tryz.ntmps63;go_upto_region 2 with (at_make;refine eT' rfl _ _ rfl w.heap.size _ _ _ _ l.length rfl rfl rfl rfl I (Nat.le_refl _) ?_;intro ad G H);have r:=ac' (B:=w.heap.size) H (Nat.le_refl _) (by simp);have O:=y' ((i' F).below r);have Q:=y' G;have U:=r.size;clear G H F;go_wp2_with (refine mp' rfl (.tmp 7) (.tmp 8) rfl w.heap.size w.heap.size l.length _ l _ (i' Q) rfl (i' O) hl rfl ?_;intro ah V X);have Y:=ac' (B:=w.heap.size) X U (by intro k Z;cases Z;exact Nat.le_refl _);go_ret;exact⟨_,rfl,V,r.trans Y⟩
theorem Q'.get {B:Nat} {w:World} {lv:Value} {fs:List Value} {r:List ByteArray} {D:Nat->Prop} (h:Q' B w lv fs r D) (i:Nat) (hi:i < r.length):∃v,fs[i]? =some v/\ax' B w v r[i].data.toList:=by
 have hl:=h.len;have z:i < fs.length:=by omega
 refine⟨fs[i],List.getElem?_eq_getElem z,?_⟩;have:=h.each i fs[i] (List.getElem?_eq_getElem z);rw[List.getD_eq_getElem?_getD,List.getElem?_map,List.getElem?_eq_getElem hi]at this;exact this
end Go.Proofs.YtamafdcnbcoegabGreat
namespace Go.Proofs.YtamafdcnbcoegabGreat
theorem iL' (a:Mod.Ag) {k:Int} {e s q:Nat} {b:ByteArray} (r:Wire.proper k e s q b=true):aB' a (Wire.bytes k e s q b.data.toList)=(0,a.deliver k e s q b):=by
 obtain⟨h1,h2,h3,h4,h5⟩:=ci' r;obtain⟨g0,g1,g2,z,D,F⟩:=Wire.parts_bytes (k:=k) (e:=e) (s:=s) (q:=q) (b:=b) (by omega) (by omega) (by omega) (by omega) (by omega);refine hx' ?_ g1 g2 z D F;unfold Wire.reads;rw[g0,g1,g2,z,D,F,r];rfl
theorem iM' (a:Mod.Sk) {k:Int} {e s q:Nat} {b:ByteArray} (r:Wire.proper k e s q b=true):am' a (Wire.bytes k e s q b.data.toList)=(0,bI' a k e s q b):=by
 obtain⟨h1,h2,h3,h4,h5⟩:=ci' r;obtain⟨g0,g1,g2,z,D,F⟩:=Wire.parts_bytes (k:=k) (e:=e) (s:=s) (q:=q) (b:=b) (by omega) (by omega) (by omega) (by omega) (by omega);refine db' ?_ g1 g2 z D F;unfold Wire.reads;rw[g0,g1,g2,z,D,F,r];rfl
theorem kc' (e:Nat):Wire.bytes 1 e 0 0 []=Wire.bytes 1 (e:Int) ((0:Nat):Int) ((0:Nat):Int) (⟨#[]⟩:ByteArray).data.toList:=rfl
theorem up' (a:Mod.Ag) (n:Nat->Nat):(a.drop n).room<=a.room:=by
 simp only[Mod.Ag.room,Mod.Ag.drop,Mod.dropTo,Mod.Flow.drop];simp only[show(0:Nat) < 3 by omega,show(1:Nat) < 3 by omega,show(2:Nat) < 3 by omega,if_true,List.length_drop];omega
theorem sw' (a:Mod.Ag) (w:Bool):Mod.Ag.room {a with welcome:=w,fl:=Mod.fresh a.fl 3}=a.room:=by
 simp[Mod.Ag.room,Mod.fresh]
theorem uq' (a:Mod.Ag) (s:Nat) (h:List Nat):Mod.Ag.room {a with fl:=Mod.upd a.fl s {a.fl s with held:=h}}=a.room:=by
 have:∀t,(Mod.upd a.fl s {a.fl s with held:=h} t).kept=(a.fl t).kept:=fun t=>by
  unfold Mod.upd;split
  ·rename_i e;rw[e]
  ·rfl
 simp only[Mod.Ag.room,this]
theorem oV' (a:Mod.Ag) (k e st q:Int) (b:ByteArray):(a.deliver k e st q b).room<=a.room:=by
 have hd:=up' a (a.says k e st q b);unfold Mod.Ag.deliver;split
 ·exact Nat.le_refl _
 ·split
  ·exact Nat.le_refl _
  ·split
   ·exact Nat.le_refl _
   ·split
    ·rw[sw'];exact hd
    ·split
     ·split
      ·exact Nat.le_refl _
      ·rw[uq'];exact hd
     ·exact Nat.le_refl _
theorem qR' (k:Mod.Sk) (h:∀i,i < 3->(k.logs i).length<=2147483647):(gY' k).size=12/\∀i,i < 3->Wire.numAt (gY' k).data.toList (4 * i)=(k.logs i).length:=by
 have e:(gY' k).data.toList=Wire.le4 ((k.logs 0).length:Int)++Wire.le4 ((k.logs 1).length:Int)++Wire.le4 ((k.logs 2).length:Int):=by simp[gY',ef'];rfl
 refine⟨by rw[<-ByteArray.size_data,<-Array.length_toList,e];rfl,fun i hi=>?_⟩;rw[e];have h0:=h i hi;obtain rfl|rfl|rfl:i=0\/i=1\/i=2:=by omega
 all_goals exact Wire.num4_le4 (by omega) (by omega)
theorem kd' (k:Mod.Sk) (e:Nat) (r:e<=2147483647) (h:∀i,i < 3->(k.logs i).length<=2147483647):Wire.proper 2 e 0 0 (gY' k)=true:=by
 obtain⟨h1,h2⟩:=qR' k h;have g0:=h2 0 (by omega);have g1:=h2 1 (by omega);have g2:=h2 2 (by omega);have z:=h 0 (by omega);have D:=h 1 (by omega);have F:=h 2 (by omega);simp only[Nat.mul_zero,Nat.mul_one,show 4 * 2=8 from rfl]at g0 g1 g2;simp[Wire.proper,Wire.isNum,Wire.welBody,h1,g0,g1,g2];omega
theorem lW' (k:Mod.Sk) (r e:Int) (s q:Nat) (b:ByteArray):(ak' k r e s q b).epoch=k.epoch:=by
 unfold ak';split
 ·exact dC' _ _ _ _
 ·exact oc' _ _ _
def vQ':Mod.Sk:={epoch:=0,logs:=fun _=>[],held:=[]}
end Go.Proofs.YtamafdcnbcoegabGreat
namespace Go.Proofs.YtamafdcnbcoegabGreat
open Go.RowKit
theorem fl' {G:Array Oper} {o:Oper} {a:Act} {K:Act->World->Prop} {H:Exit->Act->World->Prop} {E:Prop} {w:World} (I:o.guard=none) (s x:Operand) (t:TypeId) (J:o.op= .call {callee:= .builtin .append,args:= #[s,x],argTypes:= #[t,t]})
  (base:Nat) (e:TypeId) (D:Value) (size bytes:Nat) (M:Tryz.prog.underlying t=some (.slice e)) (O:(Tryz.prog.info? e).map (fun i=>(i.zero,i.size,i.bytes))=some (some D,size,bytes)) (Q:D.cells.size=size) (U:0 < size)
  (v:Value) (n:Nat) (xs:List Value) (V:w.ownsRow base e size v n xs) (hs:a.eval s=v) (F:Addr) (m c:Nat) (z:List Value) (X:a.eval x= .slice (some F) m c) (hl:z.length=m * size) (Y:∀j u,z[j]? =some u->w.cell? (F.add j)=some u)
  (h1:∀u∈z,u.oneCell'=true) (Z:n+m<=maxLen) (aa:(n+m) * bytes<=140737488355328) (ab:base<=w.heap.size)
  (h:∀r w',w'.ownsRow base e size r (n+m) (xs++z)->w.grownBy w' v.ownBlock->(r.ownBlock=v.ownBlock\/r.ownBlock=some w.heap.size)->K (a.put o.dst r) w'):if Region.wanted o (yielded G a.tmps)=true then o.wp Tryz.prog a w K H else E:=by
 rw[if_pos (by simp[Region.wanted,I])];obtain⟨i0,hi,ac,ad,ah⟩:=bp' O;obtain⟨r,w',ai,h2,h3,_,h5⟩:=run_append_own_at (P:=Tryz.prog) (w:=w) base t o.type e i0 D size bytes M hi ac ad ah Q U v n xs V F m c z hl Y h1 Z aa ab;unfold Oper.wp execOp;simp only[J,resolve,invoke,builtin,Sem.run_bind,Sem.run_pure,Result.andThen_ok,List.map_toArray,List.map_cons,List.map_nil,hs,X,ai];exact h r w' h2 h3 h5
section
variable {B g:Nat} {x y z:World} {wv:Nat->Value} {L:Nat->List ByteArray}
end
def xI' (B:Nat) (b:ByteArray) (v:Value) (r:World):Prop:=∃g,v= .slice (some ⟨g,0,none⟩) 1 1/\B<=g/\r.heap[g]? =some (.cells #[.string b] 9 (0,0))
theorem qS' (B:Nat) (b:ByteArray):bL' (xI' B b):=fun _ _ _ h r=>by
 obtain⟨g,e,h1,h2⟩:=h;exact⟨g,e,h1,(r.block g (lt_of_block h2)).trans h2⟩
theorem iN' {B:Nat} {b:ByteArray} {E:Nat->Prop} (r:∀k,E k->k < B):ba' E (xI' B b):=fun _ _ _ h hF=>by
 obtain⟨g,e,h1,h2⟩:=h;exact⟨g,e,h1,hF.blk h2 (fun e=>by have:=r _ e;omega)⟩
def wQ' (B r:Nat) (lv:Value) (xs:List Value) (b:ByteArray) (v:Value) (z:World):Prop:=z.ownsRow r 9 1 v (xs.length+1) (xs++[.string b])/\∀k,v.ownBlock=some k->lv.ownBlock=some k\/B<=k
theorem qT' (B r:Nat) (lv:Value) (xs:List Value) (b:ByteArray):bL' (wQ' B r lv xs b):=fun _ _ _ h z=>⟨R' h.1 (fun k D=>z.block k (World.ownsRow.lt h.1 k D).2),h.2⟩
theorem oW' {B z:Nat} {lv:Value} {xs:List Value} {b:ByteArray} {E:Nat->Prop} (D:∀k,E k->k < B/\lv.ownBlock≠some k):ba' E (wQ' B z lv xs b):=fun _ _ _ h hF=>
 ⟨R' h.1 (fun k r=>hF.rest k (World.ownsRow.lt h.1 k r).2 (fun e=>by
  obtain⟨h1,h2⟩:=D k e;rcases h.2 k r with h3|h3
  ·exact h2 h3
  ·omega)),h.2⟩
def tl' (B:Nat) (l:List UInt8) (v:Value) (r:World):Prop:=ax' B r v l
def tm' (B:Nat) (l:List UInt8) (v:Value) (r:World):Prop:=∃g u,v= .slice (some ⟨g,0,none⟩) 1 1/\B<=g/\r.heap[g]? =some (.cells #[u] 48 (0,0))/\ax' B r u l
def gM' (z B:Nat) (lv:Value) (xs:List Value) (l:List UInt8) (v:Value) (r:World):Prop:=∃u,r.ownsRow z 48 1 v (xs.length+1) (xs++[u])/\ax' B r u l/\∀k,v.ownBlock=some k->lv.ownBlock=some k\/B<=k
section
variable {b0 B:Nat} {l:List UInt8} {lv:Value} {xs:List Value} {E:Nat->Prop}
theorem dj' (r:∀k,E k->k < B):ba' E (tl' B l):=fun _ _ _ h hF=>eQ' h hF r
theorem iO':bL' (tl' B l):=fun _ _ _ h r=>cf' h r
theorem dk' (r:∀k,E k->k < B):ba' E (tm' B l):=fun _ _ _ h hF=>by
 obtain⟨g,u,e,h1,h2,h3⟩:=h;exact⟨g,u,e,h1,hF.blk h2 (fun h=>by have:=r g h;omega),eQ' h3 hF r⟩
theorem iP':bL' (tm' B l):=fun _ _ _ h r=>by
 obtain⟨g,u,e,h1,h2,h3⟩:=h;exact⟨g,u,e,h1,(r.block g (lt_of_block h2)).trans h2,cf' h3 r⟩
theorem gN' (z:∀k,E k->k < B/\lv.ownBlock≠some k):ba' E (gM' b0 B lv xs l):=fun _ _ _ h hF=>by
 obtain⟨u,h1,h2,h3⟩:=h;refine⟨u,R' h1 (fun k r=>hF.rest k (World.ownsRow.lt h1 k r).2 (fun e=>?_)),eQ' h2 hF (fun k r=>(z k r).1),h3⟩;rcases h3 k r with h4|h4
 ·exact(z k e).2 h4
 ·have:=(z k e).1;omega
theorem iQ':bL' (gM' b0 B lv xs l):=fun _ _ _ h r=>by
 obtain⟨u,h1,h2,h3⟩:=h;exact⟨u,R' h1 (fun k z=>r.block k (World.ownsRow.lt h1 k z).2),cf' h2 r,h3⟩
end
def qU' (B K p:Nat) (P:Pl) (lv:Value) (r:List ByteArray) (j:Nat) (z:World):Prop:=∃N,Net B K p z N/\N.pl={P with up:=P.up++(r.take j).map (·.data.toList)}/\N.ov=lv/\N.oF=r
def qV' (B K p:Nat) (P:Pl) (lv:Value) (r:List ByteArray) (j:Nat) (z:World):Prop:=∃N,Net B K p z N/\N.pl={P with dn:=P.dn++(r.take j).map (·.data.toList)}/\N.ov=lv/\N.oF=r
section
variable {B K p j m cap:Nat} {P:Pl} {lv:Value} {lad:Option Addr} {F:List ByteArray} {w z:World} {N:bd'}
theorem qU'.below (h:qU' B K p P lv F j w) (r:Below w.heap.size w z):qU' B K p P lv F j z:=by
 obtain⟨N,h1,h2⟩:=h;exact⟨N,h1.below r,h2⟩
theorem qV'.below (h:qV' B K p P lv F j w) (r:Below w.heap.size w z):qV' B K p P lv F j z:=by
 obtain⟨N,h1,h2⟩:=h;exact⟨N,h1.below r,h2⟩
theorem Net.outShape (r:Net B K p w N):∃lad cap,N.ov= .slice lad N.oF.length cap:=by
 have h:Q' B w N.ov N.ol N.oF (fun _=>False):=r.at_ 9;obtain⟨D,cap,e,_⟩:=(aq' h.row).shape;exact⟨D,cap,by rw[e,h.len]⟩
theorem Net.outAt (I:Net B K p w N) (D:N.ov= .slice lad m cap) (hj:j < N.oF.length):
  ∃g o r c,lad=some ⟨g,o,none⟩/\w.cell? ⟨g,o+j,none⟩=some (.slice r N.oF[j].data.toList.length c)/\ax' B w (.slice r N.oF[j].data.toList.length c) N.oF[j].data.toList/\do' p N 9 g/\∀k,(Value.slice r N.oF[j].data.toList.length c).ownBlock=some k->do' p N 9 k:=by
 have h:Q' B w N.ov N.ol N.oF (fun _=>False):=I.at_ 9;obtain⟨r,V,e,_,_,J⟩:=(aq' h.row).shape;obtain⟨u,h1,h2⟩:=h.get j hj;have hl:=h.len;obtain⟨g,o,G,h3⟩:=J (by omega);have h4:=h3 j (by omega);rw[h1]at h4;obtain⟨M,O,Q,_⟩:=h2.shape;rw[Q]at h4 h2 h1;rw[D]at e;injection e with H;refine⟨g,o,M,O,by rw[H,G],h4,h2, .inl ?_,fun k U=> .inr ⟨j,by omega,_,h1,U⟩⟩;rw[D,H,G];rfl
theorem Net.upShape (D:Net B K p w N):∃r cap,N.upv= .slice r N.up.length cap/\w.cell? ⟨p,2,none⟩=some (.slice r N.up.length cap):=by
 have h:w.ownsRow B 48 1 N.upv N.up.length (N.up.map (·.1)):=D.at_ 3;obtain⟨r,cap,e,_⟩:=(aq' h).shape;exact⟨r,cap,e,by rw[<-e];exact D.cell rfl⟩
theorem Net.dnShape (D:Net B K p w N):∃r cap,N.dnv= .slice r N.dn.length cap/\w.cell? ⟨p,3,none⟩=some (.slice r N.dn.length cap):=by
 have h:w.ownsRow B 48 1 N.dnv N.dn.length (N.dn.map (·.1)):=D.at_ 4;obtain⟨r,cap,e,_⟩:=(aq' h).shape;exact⟨r,cap,e,by rw[<-e];exact D.cell rfl⟩
theorem qW' {F:List ByteArray} {j:Nat} (hj:j < F.length) (r:List (List UInt8)):r++(F.take (j+1)).map (·.data.toList)=(r++(F.take j).map (·.data.toList))++[F[j].data.toList]:=by
 rw[List.take_succ_eq_append_getElem hj,List.map_append,List.append_assoc];rfl
theorem Net.upStep (r:Net B K p w N) (hj:j < F.length) (D:N.pl={P with up:=P.up++(F.take j).map (·.data.toList)}) (G:N.ov=lv) (hF:N.oF=F) {v:Value} (H:Far (fun k=>N.upv.ownBlock=some k) w z)
  (I:gM' B w.heap.size N.upv (N.up.map (·.1)) F[j].data.toList v z):qU' B K p P lv F (j+1) (z.setCell ⟨p,2,none⟩ v):=by
 obtain⟨u,h1,h2,h3⟩:=I;rw[List.length_map]at h1;refine⟨_,r.pushU H h1 h3 h2,?_,G,hF⟩;have e:(N.pushU v u F[j].data.toList).pl={N.pl with up:=N.pl.up++[F[j].data.toList]}:=by simp[bd'.pl,bd'.pushU]
 rw[e,D,qW' hj]
theorem Net.dnStep (r:Net B K p w N) (hj:j < F.length) (D:N.pl={P with dn:=P.dn++(F.take j).map (·.data.toList)}) (G:N.ov=lv) (hF:N.oF=F) {v:Value} (H:Far (fun k=>N.dnv.ownBlock=some k) w z)
  (I:gM' B w.heap.size N.dnv (N.dn.map (·.1)) F[j].data.toList v z):qV' B K p P lv F (j+1) (z.setCell ⟨p,3,none⟩ v):=by
 obtain⟨u,h1,h2,h3⟩:=I;rw[List.length_map]at h1;refine⟨_,r.pushD H h1 h3 h2,?_,G,hF⟩;have e:(N.pushD v u F[j].data.toList).pl={N.pl with dn:=N.pl.dn++[F[j].data.toList]}:=by simp[bd'.pl,bd'.pushD]
 rw[e,D,qW' hj]
end
def NzR (P:Pl) (v:Value) (r:Pl):Prop:=v= .bool true/\r=P
def nzE (d:Bool):Int:=if d=true then 3 else 1
section
variable {B K p b:Nat} {y:World} {N:bd'} {l:List UInt8}
theorem Net.noiseA (z:Net B K p y N) (G:dx' b N.pl) (bs:Value) (M:ab' y bs l) (r:Wire.reads l=false):
  Calls Tryz.prog 16 #[A' N.va,bs] y fun H D=>∃F,H= .returned (.int .i64 (nzE N.da))/\Net B K p D F/\F.pl=N.pl/\F.vs=N.vs/\Far (fun k=>B<=k) y D:=by
 have O:AgE N.da y N.va N.a N.ua:=z.at_ 1;refine(O.deliver bs l G.ag (by have:=G.lim;omega) M).mono ?_;rintro H D ⟨e,Q,a',U',rfl,U,I,V,J⟩;refine⟨{N with a:=a',da:=Q,ua:=U'},?_,z.agent U I V,?_,rfl,I.mono (fun k _ h=>(z.lt 1 k h).1)⟩
 ·rcases J with ⟨h1,h2,_⟩|⟨h1,h2,_,_,h3⟩|⟨h1,h2,_⟩
  ·rw[h1,h2];rfl
  ·rw[kD' r]at h3;omega
  ·rw[h1,h2,jm' r];rfl
 ·rcases J with ⟨h1,h2,h3,h4⟩|⟨h1,h2,_,_,h3⟩|⟨h1,h2,h3,h4⟩
  ·rw[h3,h4,<-h1];rfl
  ·rw[kD' r]at h3;omega
  ·rw[h3,h4,jm' r,<-h1];rfl
theorem Net.noiseS (r:Net B K p y N) (O:dx' b N.pl) (hK:K < 1000000000) (bs:Value) (Q:ab' y bs l) (F:Wire.reads l=false):
  Calls Tryz.prog 15 #[A' N.vs,bs] y fun G z=>∃H D c,G= .returned (.tuple #[.slice D 0 c, .int .i64 (nzE N.ds)])/\Net B (K+1) p z H/\H.pl=N.pl/\Far (fun k=>B<=k) y z:=by
 have U:SkE K N.ds y N.vs N.s N.us:=r.at_ 2;refine(U.deliver bs l O.sk hK Q).mono ?_;rintro G z ⟨e,V,s',lv,ol,X,U',rfl,I,Y,_,J,Z,aa⟩;have ab:X=[]/\e=nzE N.ds/\s'=N.s/\V=N.ds:=by
  rcases aa with ⟨h1,h2,h3,h4,h5⟩|⟨_,_,_,_,n,h1,h2,_⟩|⟨h1,h2,h3,h4,h5⟩
  ·exact⟨h5,by rw[h1,h2];rfl,h3,by rw[h4,h1]⟩
  ·rw[oO' F]at h2;omega
  ·rw[eO' F]at h2 h3 h5;exact⟨h5,by rw[h1,h2];rfl,h3,by rw[h4,h1]⟩
 obtain⟨rfl,rfl,rfl,rfl⟩:=ab;obtain⟨D,c,ac,_⟩:=(aq' I.row).shape;have M:=I.len;simp only[List.length_nil]at M;exact⟨{N with s:=N.s,ds:=N.ds,us:=U'},D,c,by rw[ac,M],r.sinkS Y J Z,rfl,J.mono (fun k _ h=>(r.lt 2 k h).1)⟩
end
theorem oX' {B K p b:Nat} {w:World} {P:Pl} (I:cx' B K p w P) (aq:dx' b P) (hK:K < 1000000000) (O:P.fa=P.da) (Q:P.fs=P.ds) (s:ByteArray) (hs:s.size<=140737488355328):
  Calls Tryz.prog 40 #[.pointer (some ⟨p,0,none⟩), .string s] w (dy' B (K+1) p w (NzR P)):=by
 obtain⟨N,I,rfl⟩:=I;have O:N.fa=N.da:=O;have Q:N.fs=N.ds:=Q;obtain⟨u1,aK,U,z,r⟩:=gS' w s hs;have D:=gR' u1 s.data.toList aK z;have aB:=y' I;have aC:=y' aq;have aj:=y' r;have aS:=y' (I.lt 0 p rfl).1;cases V:Wire.reads s.data.toList with
 |true=>rw[V,if_pos rfl]at D;unfold kH' at D;have ak:=y' D;clear D V z r I aq O Q hs hK;go_enter Tryz.func40,Tryz.ntmps40;go_upto_region 2 with (go_at_call 64;refine(i' ak).mono ?_;rintro au aL ⟨rfl,X⟩;have av:=y' X;clear X);have h1:=(i' aj).trans ((i' av).mono (i' aj).size);refine H' (fun x=>Below w.heap.size w x) (h1.alloc h1.size _) ?_;rintro x J;have Y:=y' J;clear J h1;go_wp2;go_ret;exact⟨_,_,rfl,⟨rfl,rfl⟩,⟨N,((i' aB).below (i' Y)).mono (Nat.le_succ K),rfl⟩,C' (i' Y)⟩
 |false=>
  rw[V,if_neg (by decide)]at D;unfold cN' at D;have ak:=y' D;have aD:=y' V;have aE:=y' hs;have aM:=y' hK;have aF:=y' (And.intro O Q);clear D V z r I aq O Q hs hK;go_enter Tryz.func40,Tryz.ntmps40;go_upto_region 2 with (go_at_call 64;refine(i' ak).mono ?_;rintro au aL ⟨rfl,X⟩;have av:=y' X;clear X);have h1:=(i' aj).trans ((i' av).mono (i' aj).size);refine H' (fun x=>Below w.heap.size w x) (h1.alloc h1.size _) ?_;clear U;rintro x J;have Y:=y' J;have ax:=y' ((i' aB).below J);clear J h1 ak;have c0:x.cell? ⟨p,0,none⟩=some (A' N.va):=(i' ax).cell rfl;obtain⟨u2,aN,U,z,r⟩:=gS' x s (i' aE);have aG:aN.cell? ⟨p,0,none⟩=some (A' N.va):=((i' ax).below r).cell rfl;have G:=y' (((i' ax).below r).noiseA (i' aC) u2 z (i' aD));have aO:=y' r;clear z r;unfold A' at G c0 aG;go_upto_region 5 with (go_at_call 16;refine(i' G).mono ?_;rintro au aH ⟨ay,rfl,Z,aa,aP,ab⟩;have az:=y' Z;have H:=y' aa;have aI:=y' ((C' (E:=fun k=>B<=k) ((i' Y).trans ((i' aO).mono (i' Y).size))).trans ab (fun _ _ h=>h));clear Z aa aP ab);clear U c0 aG G;have c1:aH.cell? ⟨p,1,none⟩=some (A' ay.vs):=(i' az).cell rfl;obtain⟨u3,aQ,U,z,r⟩:=gS' aH s (i' aE);have aJ:aQ.cell? ⟨p,1,none⟩=some (A' ay.vs):=((i' az).below r).cell rfl;have G:=y' (((i' az).below r).noiseS (by rw[i' H];exact i' aC) (i' aM) u3 z (i' aD));have aR:=y' r;clear z r;unfold A' at G c1 aJ;go_upto_region 6 with (go_at_call 15;refine(i' G).mono ?_;rintro au z3 ⟨F,aT,aU,rfl,Z,aa,ab⟩;have M:=y' Z;have ac:=y' aa;have ao:=y' (((i' aI).behind ((i' aR).mono (i' aI).size)).trans ab (fun _ _ h=>h));clear Z aa ab);clear U c1 aJ G;have aA:=(i' ac).trans (i' H);have ad:z3.cell? ⟨p,13,none⟩=some (.bool F.fa):=(i' M).cell rfl;have ah:z3.cell? ⟨p,14,none⟩=some (.bool F.fs):=(i' M).cell rfl;rw[show F.fa=N.da from(congrArg Pl.fa aA).trans (i' aF).1]at ad;rw[show F.fs=N.ds from(congrArg Pl.fs aA).trans (i' aF).2]at ah;rw[show ay.ds=N.ds from congrArg Pl.ds (i' H)];clear aA;cases ap:N.da with
  |false=>
   cases ai:N.ds with
   |false=>
    rw[ap]at ad;rw[ai]at ah;simp only[nzE]
    ·go_wp2;go_ret;exact⟨_,_,rfl,⟨rfl,rfl⟩,⟨F,i' M,(i' ac).trans (i' H)⟩,i' ao⟩
   |true=>
    rw[ap]at ad;rw[ai]at ah;simp only[nzE]
    ·go_wp2;go_ret;exact⟨_,_,rfl,⟨rfl,rfl⟩,⟨F,i' M,(i' ac).trans (i' H)⟩,i' ao⟩
  |true=>
   cases ai:N.ds with
   |false=>
    rw[ap]at ad;rw[ai]at ah;simp only[nzE]
    ·go_wp2;go_ret;exact⟨_,_,rfl,⟨rfl,rfl⟩,⟨F,i' M,(i' ac).trans (i' H)⟩,i' ao⟩
   |true=>
    rw[ap]at ad;rw[ai]at ah;simp only[nzE]
    ·go_wp2;go_ret;exact⟨_,_,rfl,⟨rfl,rfl⟩,⟨F,i' M,(i' ac).trans (i' H)⟩,i' ao⟩
theorem wR' {l:List ByteArray} {m:Nat} (h:m < l.length):(aV' l)[m]? =some (.string l[m]):=by simp[aV',h]
def roP (P:Pl):Pl:={P with a:=Mod.reop P.a,da:=false,fa:=false,may:=⟨#[]⟩}
def RoR (P:Pl) (v:Value) (r:Pl):Prop:=v= .bool true/\r=roP P
def rsP (P:Pl):Pl:={P with s:={epoch:=P.s.epoch,logs:=P.s.logs,held:=[]},ds:=false,fs:=false}
def RsR (P:Pl) (v:Value) (r:Pl):Prop:=v= .bool true/\r=rsP P
theorem gd' {B K p:Nat} {w:World} {P:Pl} (z:cx' B K p w P) (hK:K < 1000000000) (O:Int):
  Calls Tryz.prog 10 #[.pointer (some ⟨p,0,none⟩), .int .u64 O] w (dy' B (K+1) p w (RsR P)):=by
 obtain⟨N,z,rfl⟩:=z;have c1:w.cell? ⟨p,1,none⟩=some (A' N.vs):=z.cell rfl;have Q:SkE K N.ds w N.vs N.s N.us:=z.at_ 2;obtain⟨L,op,c2,hd,U,V,X⟩:=Q.img;have H:=y' X;have I:=y' (And.intro V U);have D:=y' z;have Y:=y' (z.lt 0 p rfl).1;have aa:=y' hK;clear z Q X V U hK;go_enter Tryz.func10,Tryz.ntmps10;unfold A' at c1 H;go_upto_region 4 with (first
  |(go_at_call 28;refine((i' H) _ (Below.refl _ _) O).mono ?_;rintro ab x ⟨v,rfl,F,G⟩;have ac:=y' F.at;have r:=y' G;clear F G)
  |(go_at_call 25;refine(vO' (K:=K) _ _ (i' ac) (i' I).1 (i' I).2 (i' aa)).mono ?_;rintro ab y ⟨ai,aj,rfl,F,G,Z⟩;replace r:=y' (And.intro ((i' r).trans (G.mono (i' r).size)) (And.intro F (fun k ad=>Nat.le_trans (i' r).size (Z k ad))));clear F G Z;unfold A'))
 have ah:=y' (((i' D).mono (Nat.le_succ K)).newS (i' r).1 (i' r).2.1 (i' r).2.2);have J:∀j u,w.cell? ⟨p,j,none⟩=some u->y.cell? ⟨p,j,none⟩=some u:=fun j u h=>((i' r).1.cell (p:=⟨p,j,none⟩) ((i' D).lt 0 p rfl).2).trans h;have ak:=J 1 _ ((i' D).cell (j:=1) rfl);have ao:=J 14 _ ((i' D).cell (j:=14) rfl);have M:=(i' r).1.block p ((i' D).lt 0 p rfl).2;have ap:y.frozen? ⟨p,1,none⟩=false:=I' (M.trans ((i' D).at_ 0));have aq:y.frozen? ⟨p,14,none⟩=false:=I' (M.trans ((i' D).at_ 0));clear c1 J M H I;go_wp2;go_ret;exact⟨_,_,rfl,⟨rfl,rfl⟩,⟨_,(i' ah).put1 (j:=14) (v:= .bool false) N.made N.stream N.may N.seen N.fa false rfl,rfl⟩,((C' (E:=fun k=>B<=k) (i' r).1).trans (S' _ _ _ _) (fun k _ e=>by have e:k=p:=e;subst e;exact i' Y)).trans (S' _ _ _ _) (fun k _ e=>by have e:k=p:=e;subst e;exact i' Y)⟩
theorem fq' {B K p b:Nat} {w:World} {P:Pl} (I:cx' B K p w P) (Q:dx' b P) (aq:P.may=⟨#[]⟩\/(P.stream < 3/\∀x∈aG' (Mod.reop P.a) P.stream,x≠P.may)) (au:Int):
  Calls Tryz.prog 9 #[.pointer (some ⟨p,0,none⟩), .int .u64 au] w (dy' B K p w (RoR P)):=by
 obtain⟨N,I,rfl⟩:=I;have c0:w.cell? ⟨p,0,none⟩=some (A' N.va):=I.cell rfl;have av:AgE N.da w N.va N.a N.ua:=I.at_ 1;obtain⟨L,c2,hd,free,bk,ax,ay,az⟩:=av.img;have ac:=y' az;have aA:N.a.epoch<=1073741824:=by have h1:N.a.epoch<=b+1:=Q.ep;have:=Q.lim;omega
 have aB:∀i,i < 3->(N.a.fl i).base+(N.a.fl i).kept.length<=1073741824:=fun i hi=>by have h1:(N.a.fl i).base+(N.a.fl i).kept.length<=b:=Q.ag.sum i hi;have:=Q.lim;omega
 have U:=y' (And.intro ax (And.intro ay (And.intro aA aB)));have D:=y' I;have ad:=y' (I.lt 0 p rfl).1;have aC:=y' aq;clear I av az ax ay aA aB Q aq;go_enter Tryz.func9,Tryz.ntmps9;unfold A' at c0 ac;go_upto_region 4 with (first
  |(go_at_call 23;refine((i' ac) _ (Below.refl _ _) au).mono ?_;rintro aD x ⟨v,rfl,G,z⟩;have aE:=y' G.at;have F:=y' z;clear G z)
  |(go_at_call 21;refine(vM' _ _ (i' aE) (i' U).1 (i' U).2.1 (i' U).2.2.1 (i' U).2.2.2).mono ?_;rintro aD y ⟨aF,aG,rfl,G,z,aH⟩;replace F:=y' (And.intro ((i' F).trans (z.mono (i' F).size)) (And.intro G (fun k ah=>Nat.le_trans (i' F).size (aH k ah))));clear G z aH;unfold A'))
 have aI:=y' ((i' D).newA (i' F).1 (i' F).2.1 (i' F).2.2);have ai:∀j u,w.cell? ⟨p,j,none⟩=some u->y.cell? ⟨p,j,none⟩=some u:=fun j u h=>((i' F).1.cell (p:=⟨p,j,none⟩) ((i' D).lt 0 p rfl).2).trans h;have ba:=ai 0 _ ((i' D).cell (j:=0) rfl);have bb:=ai 13 _ ((i' D).cell (j:=13) rfl);have aj:=(i' F).1.block p ((i' D).lt 0 p rfl).2;have bc:y.frozen? ⟨p,0,none⟩=false:=I' (aj.trans ((i' D).at_ 0));have be:y.frozen? ⟨p,13,none⟩=false:=I' (aj.trans ((i' D).at_ 0));clear c0 ai aj ac U;go_upto_region 6 with fail;obtain⟨r,M⟩:∃r:bd',r={N with va:=aF,a:=Mod.reop N.a,da:=false,ua:=aG,fa:=false}:=⟨_,rfl⟩;refine H' (fun x=>Net B K p x r/\Far (fun k=>B<=k) w x) ⟨by rw[M];exact(i' aI).put1 (j:=13) (v:= .bool false) N.made N.stream N.may N.seen false N.fs rfl,((C' (E:=fun k=>B<=k) (i' F).1).trans (S' _ _ _ _) (fun k _ e=>by have e:k=p:=e;subst e;exact i' ad)).trans (S' _ _ _ _) (fun k _ e=>by have e:k=p:=e;subst e;exact i' ad)⟩ ?_;clear ba bb bc be F aE aI D;rintro x ⟨J,aJ⟩;have aK:x.cell? ⟨p,8,none⟩=some (.int .i64 N.stream):=by rw[show N.stream=r.stream by rw[M]];exact J.cell rfl
 have V:x.cell? ⟨p,9,none⟩=some (.string N.may):=by rw[show N.may=r.may by rw[M]];exact J.cell rfl
 have ak:=I' (i:=9) (J.at_ 0);have hA2:AgE false x aF (Mod.reop N.a) aG:=by have h:AgE r.da x r.va r.a r.ua:=J.at_ 1;rw[M]at h;exact h
 have Y:=y' (hA2.spool N.stream);have aL:({r with may:=⟨#[]⟩}:bd').pl=roP N.pl:=by rw[M];rfl
 have bf:=y' aL;have aM:=(J.lt 0 p rfl).2;have bg:=y' J;have aN:=y' aJ;clear J aJ hA2 aL M;have aO:∀Z,Below x.heap.size x Z->cx' B K p (Z.setCell ⟨p,9,none⟩ (.string ⟨#[]⟩)) (roP N.pl)/\Far (fun k=>B<=k) w (Z.setCell ⟨p,9,none⟩ (.string ⟨#[]⟩)):=fun Z aP=>
  ⟨⟨_,((i' bg).below aP).put1 (j:=9) (v:= .string ⟨#[]⟩) r.made r.stream ⟨#[]⟩ r.seen r.fa r.fs rfl,i' bf⟩,((i' aN).behind (aP.mono (i' aN).size)).trans (S' _ _ _ _) (fun k _ e=>by have e:k=p:=e;subst e;exact i' ad)⟩
 have H:=y' aO;clear aO;by_cases O:N.may=⟨#[]⟩
 ·rw[O]at V;have O:=y' O;go_wp2;go_ret;exact⟨_,_,rfl,⟨rfl,rfl⟩,((i' H) _ (Below.refl _ _)).1,((i' H) _ (Below.refl _ _)).2⟩
 ·have aQ:N.stream < 3/\∀x∈aG' (Mod.reop N.a) N.stream,x≠N.may:=by
   rcases i' aC with h|h
   ·exact absurd h O
   ·exact h
  have X:=y' aQ.2;obtain⟨aa,aR⟩:∃aa,aa=N.may:=⟨_,rfl⟩;rw[<-aR]at V X O;obtain⟨l,hl⟩:∃l,l=aG' (Mod.reop N.a) N.stream:=⟨_,rfl⟩;rw[<-hl]at Y X;clear aQ aR hl aC;go_upto_region 8 with (go_at_call 18;refine(i' Y).mono ?_;rintro aD y ⟨lv,rfl,G,z⟩;obtain⟨bl,bm,ao,aS,aT,ab⟩:=(aq' G).shape;have aU:=y' (Nat.le_trans aS aT);clear aS aT;replace ao:=y' ao;replace ab:=y' ab;replace z:=y' z;clear G;rw[i' ao])
  ·have bn:=((i' z).cell (p:=⟨p,9,none⟩) aM).trans V;have bo:=((i' z).frozen (p:=⟨p,9,none⟩) aM).trans ak;obtain⟨n,ap⟩:∃n,n=l.length:=⟨_,rfl⟩;have D:=y' ap;rw[<-ap]at ab aU ⊢;clear ap;by_cases bh:n=0
   ·subst bh;clear Y V aK ak X;go_quiet (fail);go_wp2;go_ret;exact⟨_,_,rfl,⟨rfl,rfl⟩,((i' H) _ (below_drewN (i' z) _)).1,((i' H) _ (below_drewN (i' z) _)).2⟩
   ·obtain⟨k,ah⟩:∃k,n=k+1:=⟨n - 1,by omega⟩;obtain⟨g,o,rfl,aV⟩:=(i' ab) (by omega);have aW:k < l.length:=by have:=i' D;omega
    have aX:=aV k (by omega);rw[wR' aW]at aX;have aY:l[k]≠aa:=(i' X) _ (List.getElem_mem aW);generalize l[k]=bi at aX aY;have aZ:=i' aU;unfold maxLen at aZ;have bp:(0:Int) < (n:Int):=by omega
    have bq:IntKind.i64.wrap ((n:Int) - 1)=(k:Int):=by rw[IntKind.wrap_i64];omega
    have br:(bi.toList==aa.toList)=false:=iI' aY;have bt:(k:Int) < (n:Int):=by omega
    have bj:0 < n:=by omega
    have bu:decide (0 < n)=true:=decide_eq_true bj;have bw:¬ (k:Int) < 0:=by omega
    clear aV D O V aK Y ak X aZ ah;go_quiet (fail);go_wp2;go_ret;exact⟨_,_,rfl,⟨rfl,rfl⟩,((i' H) _ (below_drewN (i' z) _)).1,((i' H) _ (below_drewN (i' z) _)).2⟩
  ·go_ret;exact⟨_,_,rfl,⟨rfl,rfl⟩,((i' H) _ (Below.refl _ _)).1,((i' H) _ (Below.refl _ _)).2⟩
def tsP (P:Pl) (e:Int) (r:Bool) (s':Mod.Sk) (z:List ByteArray):Bool×Pl:=
 if e=4 then(decide (z.length=0),{P with s:=s',ds:=r,fs:=true})else(decide (e=0) ||P.fs&&decide (e=3),{P with s:=s',ds:=r,dn:=P.dn++z.map (·.data.toList)})
def TsR (l:List UInt8) (P:Pl) (v:Value) (D:Pl):Prop:=∃ (e:Int) (r:Bool) (s':Mod.Sk) (z:List ByteArray),jz' l P.ds P.s e r s' z/\aw' s'/\v= .bool (tsP P e r s' z).1/\D=(tsP P e r s' z).2
theorem sx' {B K p b:Nat} {w:World} {P:Pl} (V:cx' B K p w P) (aI:dx' b P) (hK:K < 1000000000) (bs:Value) (l:List UInt8) (bl:ab' w bs l)
  (hF:∀e I s' D,jz' l P.ds P.s e I s' D->D.length<=12/\∀x∈D,0 < x.data.toList.length/\x.data.toList.length<=1000):
  Calls Tryz.prog 38 #[.pointer (some ⟨p,0,none⟩),bs] w (dy' B (K+1) p w (TsR l P)):=by
 obtain⟨N,V,rfl⟩:=V;have c0:=V.cell (j:=1) rfl;have bm:SkE K N.ds w N.vs N.s N.us:=V.at_ 2;have bL:=y' (bm.deliver bs l aI.sk hK bl);have aV:=y' V;have bM:=y' (fun k r=>(V.lt 2 k r).1);have bn:=y' (And.intro aI.dn aI.lim);have aJ:=y' (V.lt 0 p rfl).1;have ad:=y' hF;clear V bm aI hF bl hK;go_enter Tryz.func38,Tryz.ntmps38;go_upto_region 2 with (go_at_call 15;refine(i' bL).mono ?_;rintro bN x ⟨e,I,s',lv,ol,D,U',rfl,k0,k1,X,k2,k3,k4⟩;have F:=(i' aV).sinkO k0 k1 k2 k3;have ay:Far (fun k=>B<=k) w x:=k2.mono (fun k _ h=>(i' bM) k h);clear k0 k1 k2 k3;have aa:=y' F;clear F;replace ay:=y' ay;replace k4:=y' k4;replace X:=y' X;obtain⟨aW,ah,aX⟩:=(i' aa).outShape;have aX:lv= .slice aW D.length ah:=aX;subst aX);have bo:=((i' ad) _ _ _ _ (i' k4)).1;have bp:=y' ((i' ad) _ _ _ _ (i' k4)).2;obtain⟨m,ai⟩:∃m,m=D.length:=⟨_,rfl⟩;rw[<-ai]at aa bo ⊢;have az:=(i' aa).cell (j:=14) rfl;have bO:=I' (i:=14) ((i' aa).at_ 0);by_cases h4:e=4
 ·have Q:=y' (show tsP N.pl e I s' D=(decide (m=0),{N.pl with s:=s',ds:=I,fs:=true}) by unfold tsP;rw[if_pos h4,ai]);subst h4;have aj:=y' ai;clear c0 aV ai bo bp ad;go_wp2;go_ret;exact⟨_,{N.pl with s:=s',ds:=I,fs:=true},rfl,⟨_,I,s',D,i' k4,i' X,by rw[i' Q];simp[show(((m:Nat):Int) ==0)=decide (m=0) from by by_cases h:m=0 <;> simp[h]],by rw[i' Q]⟩,⟨_,(i' aa).put1 N.made N.stream N.may N.seen N.fa true rfl,rfl⟩,(i' ay).trans (S' _ _ _ _) (fun k _ e=>by have e:k=p:=e;subst e;exact i' aJ)⟩
 ·have Q:=y' (show tsP N.pl e I s' D=(decide (e=0) ||N.fs&&decide (e=3),{N.pl with s:=s',ds:=I,dn:=N.pl.dn++D.map (·.data.toList)}) by unfold tsP;rw[if_neg h4];rfl);obtain⟨P,aK⟩:∃P:Pl,P={N.pl with s:=s',ds:=I}:=⟨_,rfl⟩;have bq:Hid (qV' B (K+1) p P (.slice aW m ah) D 0 x):=y' ⟨_,i' aa,by rw[aK];simp[bd'.pl],rfl,rfl⟩;have bP:Hid (P.dn.length+24<=1000000000):=by rw[aK];have h1:=(i' bn).1;have h2:=(i' bn).2;show N.pl.dn.length+24<= _;omega
  have ak:=y' aK;have aj:=y' ai;have cj:m<=D.length:=by omega
  have ck:D.length<=m:=by omega
  clear c0 az bO aV aK aa ai ad;go_wp2;go_loopw[7] (fun i wr=>∃j:Nat,j<=m/\i= .int .i64 j/\qV' B (K+1) p P (.slice aW m ah) D j wr/\Far (fun k=>B<=k) w wr) (fun i _=>m - (intOf i).toNat)
  case atStart=>exact⟨0,by omega,rfl,i' bq,i' ay⟩
  case round=>
   clear bq ay;obtain⟨j,hj,rfl,⟨z,F,ao,aL,ap⟩,aM⟩:=hrel;by_cases cl:j < m
   ·have aN:j < D.length:=by omega
    have cm:(j:Int) < m:=by omega
    obtain⟨J,M,Y,aY⟩:=F.dnShape;obtain⟨g,o,aq,au,bQ,aZ,aO,aP,av⟩:=F.outAt aL (by rw[ap];exact aN);subst bQ;have aA:z.oF[j]'(by rw[ap];exact aN)=D[j]:=by simp[ap]
    rw[aA]at aZ aO av;have ba:z.dn.length=P.dn.length+j:=by have e:=congrArg (fun q=>q.dn.length) ao;simp[bd'.pl]at e;omega
    have bb:=F.lt 0 p rfl;have aB:∀k,(Value.slice J z.dn.length M).ownBlock=some k->k < wr.heap.size:=fun k r=>(F.lt 4 k (by show z.dnv.ownBlock=some k;rw[Y];exact r)).2;have br:∀k,(Value.slice J z.dn.length M).ownBlock=some k->B<=k:=fun k r=>(F.lt 4 k (by show z.dnv.ownBlock=some k;rw[Y];exact r)).1;have aC:(Value.slice J z.dn.length M).ownBlock≠some p:=fun e=>F.ne 0 4 p (by decide) rfl (by show z.dnv.ownBlock=some p;rw[Y];exact e);have bt:(Value.slice J z.dn.length M).ownBlock≠some g:=fun e=>F.ne 9 4 g (by decide) aP (by show z.dnv.ownBlock=some g;rw[Y];exact e);have bR:g≠p:=fun e=>F.ne 9 0 g (by decide) aP e;have bS:=(F.lt 9 g aP).2;obtain⟨fl,aQ⟩:∃fl,fl=D[j].data.toList:=⟨_,rfl⟩;rw[<-aQ]at aZ aO av;have bc:0 < fl.length/\fl.length<=1000:=by rw[aQ];exact(i' bp) _ (List.getElem_mem aN)
    obtain⟨bc,cn⟩:=bc;have bu:∀k,(Value.slice aq fl.length au).ownBlock=some k->k < wr.heap.size:=fun k r=>(F.lt 9 k (av k r)).2;have bw:∀k,(Value.slice aq fl.length au).ownBlock=some k->(Value.slice J z.dn.length M).ownBlock≠some k:=fun k r e=>F.ne 9 4 k (by decide) (av k r) (by show z.dnv.ownBlock=some k;rw[Y];exact e);have bT:∀k,(Value.slice aq fl.length au).ownBlock=some k->k≠p:=fun k r e=>F.ne 9 0 k (by decide) (av k r) e;have bU:=y' aO;have aR:wr.ownsRow B 48 1 z.dnv z.dn.length (z.dn.map (·.1)):=F.at_ 4;rw[Y]at aR;have bz:Hid (∀ (G:World) (v:Value),Far (fun k=>(Value.slice J z.dn.length M).ownBlock=some k) wr G->gM' B wr.heap.size (.slice J z.dn.length M) (z.dn.map (·.1)) fl v G->qV' B (K+1) p P (.slice (some ⟨g,o,none⟩) m ah) D (j+1) (G.setCell ⟨p,3,none⟩ v)):=y' (fun G v h1 h2=>by rw[<-Y]at h1 h2;rw[aQ]at h2;exact F.dnStep aN ao aL ap h1 h2);have be:(z.dn.map (·.1)).length=z.dn.length:=by rw[List.length_map]
    obtain⟨un,aS⟩:∃un,un=z.dn.length:=⟨_,rfl⟩;obtain⟨aD,bf⟩:∃aD,aD=z.dn.map (·.1):=⟨_,rfl⟩;rw[<-aS,<-bf]at bz aR;rw[<-bf,<-aS]at be;rw[<-aS]at aB br aC bt bw aY ba;have bV:=ba;have bW:=y' aR;have c0:=F.cell (j:=0) rfl;have aJ:=y' (F.at_ 0:wr.heap[p]? =some (.cells (bu' z) 37 (0,0)));have ab:=y' aM;have bX:=bb.2;have co:=bb.1;have bY:=bu;have cp:un+1<=1000000000:=by have:=i' bP;omega
    have cq:B<=wr.heap.size:=by omega
    clear aQ aR aL ap aO aP av aA bf aS Y ao aM ba bV bb F bu;go_upto_region 8 with fail;refine Z' (by kernel_rfl)
     [fun v _=>v= .pointer (some ⟨p,0,none⟩),fun v _=>v= .pointer (some ⟨p,0,none⟩),fun v _=>v= .pointer (some ⟨p,0,none⟩),fun v _=>v= .pointer (some ⟨p,3,none⟩),fun v _=>v= .slice J un M,
      fun v _=>v= .slice (some ⟨g,o,none⟩) m ah,fun v _=>v= .int .i64 j,fun v _=>v= .pointer (some ⟨g,o+j,none⟩),fun v _=>v= .slice aq fl.length au,tl' wr.heap.size fl,tm' wr.heap.size fl,gM' B wr.heap.size (.slice J un M) aD fl,
      fun v _=>v= .pointer (some ⟨p,0,none⟩),fun v _=>v= .pointer (some ⟨p,3,none⟩),fun _ G=>qV' B (K+1) p P (.slice (some ⟨g,o,none⟩) m ah) D (j+1) G]
     [[(0,none)],[(0,none)],[(32,some 1)],[(33,some 2)],[(34,some 3)],[(5,none)],[(7,none)],[(36,some 5),(37,some 6)],[(38,some 7)],[(39,some 8)],[(40,some 9)],[(35,some 4),(41,some 10)],[(31,some 0)],[(43,some 12)],[(44,some 13),(42,some 11)]] [some 31,some 32,some 33,some 34,some 35,some 36,some 37,some 38,some 39,some 40,some 41,some 42,some 43,some 44,none] [false,false,false,false,false,false,false,false,false,false,false,false,false,false,false,false,false,false,false,false,false,false,false,false,false,false,false,false,false,false,false,true,true,true,true,true,true,true,true,true,true,true,true,true,true,false,false,false,false,false,false,false,false,false,false,false,false]
     [(11,fun k=>(Value.slice J un M).ownBlock=some k),(14,fun k=>k=p)]
     (by kernel_rfl) (by kernel_rfl) (by kernel_rfl) (by kernel_rfl) (by kernel_rfl) ?_ ?_ ?_ ?_
    ·repeat' (first|exact O' _|exact iO'|exact iP'|exact iQ'|exact(fun _ _ _ h aE=>h.below aE)|exact trivial|apply And.intro)
    ·repeat' (first|exact trivial|exact .inl rfl|exact .inr (.inr (an' _ _))|exact .inr (.inr (dj' (fun k r=>aB k r)))|exact .inr (.inr (dj' (fun k (r:k=p)=>by omega)))|exact .inr (.inr (dk' (fun k r=>aB k r)))|exact .inr (.inr (dk' (fun k (r:k=p)=>by omega)))|exact .inr (.inr (gN' (fun k (r:k=p)=>⟨by omega,by rw[r];exact aC⟩)))|exact .inr (.inl (show av' _ 14 11=true by decide+kernel))|apply And.intro)
    ·refine⟨?_,?_,?_,?_,?_,?_,?_,?_,?_,?_,?_,?_,?_,?_,?_,trivial⟩;all_goals
      intro cr G aE ax;have bA:=aE.size;have aF:=y' aE;clear aE;simp only[M',List.getD_cons_zero,List.getD_cons_succ,Array.getD_eq_getD_getElem?]at ax;try simp at ax
     iterate 4
      ·go_simp;exact⟨_,rfl,Far.refl _ _,rfl⟩
     ·have z0:G.cell? ⟨p,3,none⟩=some (.slice J un M):=by
       have h1:=(i' aF).rest p bX (by
        rintro⟨q,H,g1,g2,U⟩;simp at H;rcases H with rfl|rfl
        ·exact aC U
        ·exact absurd (show av' _ 14 4=false from g2) (by decide+kernel))
       exact(World.cell?_of_block h1).trans aY
      go_simp;exact⟨_,rfl,Far.refl _ _,rfl⟩
     iterate 3
      ·go_simp;exact⟨_,rfl,Far.refl _ _,rfl⟩
     ·have z0:G.cell? ⟨g,o+j,none⟩=some (.slice aq fl.length au):=by
       have h1:=(i' aF).rest g bS (by
        rintro⟨q,H,_,_,U⟩;simp at H;rcases H with rfl|rfl
        ·exact bt U
        ·exact bR U)
       exact(World.cell?_of_block h1).trans aZ
      go_simp;exact⟨_,rfl,Far.refl _ _,rfl⟩
     ·have bB:ab' G (.slice aq fl.length au) fl:=ax'.at (B:=B) (R' (w':=G) (i' bU) (fun k r=>(i' aF).rest k (bY k r) (by
       rintro⟨q,H,_,_,U⟩;simp at H;rcases H with rfl|rfl
       ·exact bw k r U
       ·exact bT k r U)))
      have bZ:=y' (lV' _ fl G bB bc (by omega));clear bB;go_simp;refine(i' bZ).mono ?_;rintro bN cs ⟨v9,rfl,bg,aT⟩;exact⟨_,rfl,C' aT,ax'.mono bg bA⟩
     ·have bh:ax' wr.heap.size G _ fl:=ax;obtain⟨cu,cv,Z,_⟩:=bh.shape;have bC:=y' bh;clear ax bh;rw[Z]at bC;go_simp;exact⟨_,rfl,C' ((Below.refl _ _).alloc (Nat.le_refl _) _),_,_,rfl,bA,heap_alloc_new G _,cf' (i' bC) ((Below.refl _ _).alloc (Nat.le_refl _) _)⟩
     ·obtain⟨ca,cb,u9,cc,cw,cd,aU⟩:=ax;have ce:=R' (w':=G) (i' bW) (fun k r=>(i' aF).rest k (aB k r) (by
       rintro⟨q,H,g1,g2,U⟩;simp at H;rcases H with rfl|rfl
       ·exact g1 rfl
       ·have e:k=p:=U;exact aC (by rw[<-e];exact r)))
      obtain⟨_,_,Z,_⟩:=aU.shape;refine fl' rfl (.tmp 35) (.tmp 41) 32 rfl B 48 (.slice none 0 0) 1 24 Tryz.underlying32 (by kernel_rfl) rfl (by decide) (.slice J un M) un aD ce (by simp[Act.eval,ca]) ⟨cb,0,none⟩ 1 1 [u9] (by simp[Act.eval,cc]) rfl ?_ (by intro u hu;simp at hu;subst hu;rw[Z];rfl) (by unfold maxLen;omega) (by omega) (by omega) ?_
      ·intro k u r;rw[cO',t' cd,Nat.zero_add];simpa using r
      ·intro bD w' bg aT cf;refine⟨bD,rfl,aj' (.head _) (br' aT),u9,by rw[be];exact bg,?_,fun k r=>?_⟩
       ·exact R' aU (fun k r=>(br' aT).rest k (aU.lt k r).2 (fun e=>by have:=aB k e;have:=(aU.lt k r).1;omega))
       ·have r:bD.ownBlock=some k:=r;rcases cf with e|e
        ·exact .inl (by rw[<-e];exact r)
        ·rw[e]at r;injection r with r;exact .inr (by omega)
     iterate 2
      ·go_simp;exact⟨_,rfl,Far.refl _ _,rfl⟩
     ·have bi:Far (fun k=>(Value.slice J un M).ownBlock=some k) wr G:=(i' aF).mono (by
       rintro k _ ⟨q,H,g1,g2,U⟩;simp at H;rcases H with rfl|rfl
       ·exact U
       ·exact absurd rfl g1)
      have bj:=bi.blk (i' aJ) aC;have cx:G.frozen? ⟨p,3,none⟩=false:=I' (i:=3) bj;have bE:∃v0,G.cell? ⟨p,3,none⟩=some v0:=⟨_,by rw[t' bj,<-t' (i' aJ)];exact aY⟩;obtain⟨v0,bE⟩:=bE;obtain⟨cy,u9,bk,bF,bG⟩:=ax;obtain⟨cz,cA,cg,_⟩:=(aq' bk).shape;have bH:=y' (show gM' B wr.heap.size (.slice J un M) aD fl _ G from⟨u9,bk,bF,bG⟩);have ch:=y' bi;clear bk bF bG bj bi;rw[cg,be]at bH;go_simp;exact⟨aj' (.tail _ (.head _)) (S' G p 3 _),i' bz G _ (i' ch) (i' bH)⟩
    ·intro O G bI bJ;have bK:=bJ.2.2.2.2.2.2.2.2.2.2.2.2.2.2.1;have ci:=y' bK;have ad:=y' (bI.mono (fun k _ h=>by
      obtain⟨q,H,h⟩:=h;simp at H;rcases H with rfl|rfl
      ·exact br k h
      ·have:k=p:=h;omega):Far (fun k=>B<=k) wr G)
     clear bJ bI bK;simp only[Y'];generalize O 31=cB;generalize O 32=cC;generalize O 33=cD;generalize O 34=cE;generalize O 35=cF;generalize O 36=cG;generalize O 37=cH;generalize O 38=cI;generalize O 39=cJ;generalize O 40=cK;generalize O 41=cL;generalize O 42=cM;generalize O 43=cN;generalize O 44=cO;go_wp2;go_roundw
     case rel=>exact⟨j+1,by omega,by go_num,i' ci,(i' ab).trans (i' ad) (fun _ _ h=>h)⟩
     case measure=>simp[intOf];omega
   ·have Z:j=m:=by omega
    subst Z;have cP:¬ (j:Int) < j:=by omega
    have aA:z.fs=N.fs:=by have Z:=congrArg Pl.fs ao;rw[i' ak]at Z;exact Z
    have az:wr.cell? ⟨p,14,none⟩=some (.bool z.fs):=F.cell (j:=14) rfl;rw[aA]at az;have aG:=y' F;have ab:=y' aM;have aH:=y' ao;clear F aM ao aL ap aA;cases ac:N.fs
    ·rw[ac]at az;by_cases h0:e=0
     ·subst h0;go_wp2;go_ret;exact⟨_,_,rfl,⟨_,I,s',D,i' k4,i' X,by rw[i' Q,ac];simp,rfl⟩,⟨z,i' aG,by rw[i' Q,i' aH,i' ak,i' aj,List.take_length]⟩,i' ab⟩
     ·go_wp2;go_ret;exact⟨_,_,rfl,⟨_,I,s',D,i' k4,i' X,by rw[i' Q,ac];simp[h0],rfl⟩,⟨z,i' aG,by rw[i' Q,i' aH,i' ak,i' aj,List.take_length]⟩,i' ab⟩
    ·rw[ac]at az;by_cases h0:e=0
     ·subst h0;go_wp2;go_ret;exact⟨_,_,rfl,⟨_,I,s',D,i' k4,i' X,by rw[i' Q,ac];simp,rfl⟩,⟨z,i' aG,by rw[i' Q,i' aH,i' ak,i' aj,List.take_length]⟩,i' ab⟩
     ·by_cases h3:e=3
      ·subst h3;go_wp2;go_ret;exact⟨_,_,rfl,⟨_,I,s',D,i' k4,i' X,by rw[i' Q,ac];simp,rfl⟩,⟨z,i' aG,by rw[i' Q,i' aH,i' ak,i' aj,List.take_length]⟩,i' ab⟩
      ·go_wp2;go_ret;exact⟨_,_,rfl,⟨_,I,s',D,i' k4,i' X,by rw[i' Q,ac];simp[h0,h3],rfl⟩,⟨z,i' aG,by rw[i' Q,i' aH,i' ak,i' aj,List.take_length]⟩,i' ab⟩
def tkP (P:Pl):Pl:={P with a:=(cu' P.da P.a).1,up:=P.up++(cu' P.da P.a).2}
def TkR (P:Pl) (v:Value) (r:Pl):Prop:=v= .tuple #[]/\r=tkP P
theorem qX' {B K p b:Nat} {w:World} {P:Pl} (U:cx' B K p w P) (ac:dx' b P) (hF:(cu' P.da P.a).2.length<=12/\∀l∈ (cu' P.da P.a).2,0 < l.length/\l.length<=1000):
  Calls Tryz.prog 37 #[.pointer (some ⟨p,0,none⟩)] w (dy' B K p w (TkR P)):=by
 obtain⟨N,U,rfl⟩:=U;have c0:=U.cell (j:=0) rfl;have be:AgE N.da w N.va N.a N.ua:=U.at_ 1;have aK:=y' (be.tick ac.ag (by have:=ac.lim;omega));have bf:=y' U;have bE:=y' (fun k r=>(U.lt 1 k r).1);have bg:=y' (And.intro ac.up ac.lim);obtain⟨fr,ap⟩:∃fr,fr=(cu' N.da N.a).2:=⟨_,rfl⟩;obtain⟨aq,aL⟩:∃aq,aq=(cu' N.da N.a).1:=⟨_,rfl⟩;have bF:=y' (show tkP N.pl={N.pl with a:=aq,up:=N.pl.up++fr} by rw[aL,ap];rfl);have au:Hid (fr.length<=12/\∀l∈fr,0 < l.length/\l.length<=1000):=by rw[ap];exact hF
 rw[<-ap,<-aL]at aK;obtain⟨H,av⟩:∃H:List ByteArray,H=fr.map fun l=>⟨l.toArray⟩:=⟨_,rfl⟩;rw[<-av]at aK;have aM:H.map (·.data.toList)=fr:=by rw[av,List.map_map];simp[Function.comp_def]
 have bG:H.length<=12:=by rw[av,List.length_map];exact(i' au).1
 replace au:Hid (∀x∈H,0 < x.data.toList.length/\x.data.toList.length<=1000):=y' (fun x bH=>(i' au).2 _ (by rw[<-aM];exact List.mem_map_of_mem bH));have bI:=y' aM;clear U be ac hF ap aL av aM;go_enter Tryz.func37,Tryz.ntmps37;go_upto_region 1 with (go_at_call 13;refine(i' aK).mono ?_;rintro bJ x ⟨lv,ol,U',rfl,k0,k1,k2,k3⟩;have F:=(i' bf).agentO k0 k1 k2 k3;have ax:Far (fun k=>B<=k) w x:=k2.mono (fun k _ h=>(i' bE) k h);clear k0 k1 k2 k3;have ay:=y' F;clear F;replace ax:=y' ax;obtain⟨aN,V,e⟩:=(i' ay).outShape;have e:lv= .slice aN H.length V:=e;subst e);obtain⟨m,aO⟩:∃m,m=H.length:=⟨_,rfl⟩;rw[<-aO]at ay bG ⊢;obtain⟨P,az⟩:∃P:Pl,P={N.pl with a:=aq}:=⟨_,rfl⟩;have bh:Hid (qU' B K p P (.slice aN m V) H 0 x):=y' ⟨_,i' ay,by rw[az];simp[bd'.pl],rfl,rfl⟩;have bK:Hid (P.up.length+24<=1000000000):=by rw[az];have h1:=(i' bg).1;have h2:=(i' bg).2;show N.pl.up.length+24<= _;omega
 have bL:=y' az;have bM:=y' aO;have cj:m<=H.length:=by omega
 have ck:H.length<=m:=by omega
 clear c0 bf az ay aO;go_wp2;go_loopw[3] (fun i wr=>∃j:Nat,j<=m/\i= .int .i64 j/\qU' B K p P (.slice aN m V) H j wr/\Far (fun k=>B<=k) w wr) (fun i _=>m - (intOf i).toNat)
 case atStart=>exact⟨0,by omega,rfl,i' bh,i' ax⟩
 case round=>
  clear bh ax;obtain⟨j,hj,rfl,⟨z,F,ad,aA,X⟩,aB⟩:=hrel;by_cases cl:j < m
  ·have aC:j < H.length:=by omega
   have cm:(j:Int) < m:=by omega
   obtain⟨I,J,Q,aP⟩:=F.upShape;obtain⟨g,o,Y,Z,bN,aQ,aD,aE,aa⟩:=F.outAt aA (by rw[X];exact aC);subst bN;have bi:z.oF[j]'(by rw[X];exact aC)=H[j]:=by simp[X]
   rw[bi]at aQ aD aa;have aR:z.up.length=P.up.length+j:=by have e:=congrArg (fun q=>q.up.length) ad;simp[bd'.pl]at e;omega
   have aS:=F.lt 0 p rfl;have ah:∀k,(Value.slice I z.up.length J).ownBlock=some k->k < wr.heap.size:=fun k r=>(F.lt 3 k (by show z.upv.ownBlock=some k;rw[Q];exact r)).2;have bj:∀k,(Value.slice I z.up.length J).ownBlock=some k->B<=k:=fun k r=>(F.lt 3 k (by show z.upv.ownBlock=some k;rw[Q];exact r)).1;have ai:(Value.slice I z.up.length J).ownBlock≠some p:=fun e=>F.ne 0 3 p (by decide) rfl (by show z.upv.ownBlock=some p;rw[Q];exact e);have bk:(Value.slice I z.up.length J).ownBlock≠some g:=fun e=>F.ne 9 3 g (by decide) aE (by show z.upv.ownBlock=some g;rw[Q];exact e);have bO:g≠p:=fun e=>F.ne 9 0 g (by decide) aE e;have bP:=(F.lt 9 g aE).2;obtain⟨fl,aF⟩:∃fl,fl=H[j].data.toList:=⟨_,rfl⟩;rw[<-aF]at aQ aD aa;have aT:0 < fl.length/\fl.length<=1000:=by rw[aF];exact(i' au) _ (List.getElem_mem aC)
   obtain⟨aT,cn⟩:=aT;have bl:∀k,(Value.slice Y fl.length Z).ownBlock=some k->k < wr.heap.size:=fun k r=>(F.lt 9 k (aa k r)).2;have bm:∀k,(Value.slice Y fl.length Z).ownBlock=some k->(Value.slice I z.up.length J).ownBlock≠some k:=fun k r e=>F.ne 9 3 k (by decide) (aa k r) (by show z.upv.ownBlock=some k;rw[Q];exact e);have bQ:∀k,(Value.slice Y fl.length Z).ownBlock=some k->k≠p:=fun k r e=>F.ne 9 0 k (by decide) (aa k r) e;have bR:=y' aD;have aG:wr.ownsRow B 48 1 z.upv z.up.length (z.up.map (·.1)):=F.at_ 3;rw[Q]at aG;have bn:Hid (∀ (D:World) (v:Value),Far (fun k=>(Value.slice I z.up.length J).ownBlock=some k) wr D->gM' B wr.heap.size (.slice I z.up.length J) (z.up.map (·.1)) fl v D->qU' B K p P (.slice (some ⟨g,o,none⟩) m V) H (j+1) (D.setCell ⟨p,2,none⟩ v)):=y' (fun D v h1 h2=>by rw[<-Q]at h1 h2;rw[aF]at h2;exact F.upStep aC ad aA X h1 h2);have aU:(z.up.map (·.1)).length=z.up.length:=by rw[List.length_map]
   obtain⟨un,aH⟩:∃un,un=z.up.length:=⟨_,rfl⟩;obtain⟨aj,aV⟩:∃aj,aj=z.up.map (·.1):=⟨_,rfl⟩;rw[<-aH,<-aV]at bn aG;rw[<-aV,<-aH]at aU;rw[<-aH]at ah bj ai bk bm aP aR;have bS:=aR;have bT:=y' aG;have c0:=F.cell (j:=0) rfl;have bo:=y' (F.at_ 0:wr.heap[p]? =some (.cells (bu' z) 37 (0,0)));have aW:=y' aB;have bU:=aS.2;have co:=aS.1;have bV:=bl;have cp:un+1<=1000000000:=by have:=i' bK;omega
   have cq:B<=wr.heap.size:=by omega
   clear aF aG aA X aD aE aa bi aV aH Q ad aB aR bS aS F bl;go_upto_region 4 with fail;refine Z' (by kernel_rfl)
    [fun v _=>v= .pointer (some ⟨p,0,none⟩),fun v _=>v= .pointer (some ⟨p,0,none⟩),fun v _=>v= .pointer (some ⟨p,0,none⟩),fun v _=>v= .pointer (some ⟨p,2,none⟩),fun v _=>v= .slice I un J,
     fun v _=>v= .slice (some ⟨g,o,none⟩) m V,fun v _=>v= .int .i64 j,fun v _=>v= .pointer (some ⟨g,o+j,none⟩),fun v _=>v= .slice Y fl.length Z,tl' wr.heap.size fl,tm' wr.heap.size fl,gM' B wr.heap.size (.slice I un J) aj fl,
     fun v _=>v= .pointer (some ⟨p,0,none⟩),fun v _=>v= .pointer (some ⟨p,2,none⟩),fun _ D=>qU' B K p P (.slice (some ⟨g,o,none⟩) m V) H (j+1) D]
    [[(0,none)],[(0,none)],[(16,some 1)],[(17,some 2)],[(18,some 3)],[(2,none)],[(3,none)],[(20,some 5),(21,some 6)],[(22,some 7)],[(23,some 8)],[(24,some 9)],[(19,some 4),(25,some 10)],[(15,some 0)],[(27,some 12)],[(28,some 13),(26,some 11)]] [some 15,some 16,some 17,some 18,some 19,some 20,some 21,some 22,some 23,some 24,some 25,some 26,some 27,some 28,none] [false,false,false,false,false,false,false,false,false,false,false,false,false,false,false,true,true,true,true,true,true,true,true,true,true,true,true,true,true]
    [(11,fun k=>(Value.slice I un J).ownBlock=some k),(14,fun k=>k=p)]
    (by kernel_rfl) (by kernel_rfl) (by kernel_rfl) (by kernel_rfl) (by kernel_rfl) ?_ ?_ ?_ ?_
   ·repeat' (first|exact O' _|exact iO'|exact iP'|exact iQ'|exact(fun _ _ _ h ak=>h.below ak)|exact trivial|apply And.intro)
   ·repeat' (first|exact trivial|exact .inl rfl|exact .inr (.inr (an' _ _))|exact .inr (.inr (dj' (fun k r=>ah k r)))|exact .inr (.inr (dj' (fun k (r:k=p)=>by omega)))|exact .inr (.inr (dk' (fun k r=>ah k r)))|exact .inr (.inr (dk' (fun k (r:k=p)=>by omega)))|exact .inr (.inr (gN' (fun k (r:k=p)=>⟨by omega,by rw[r];exact ai⟩)))|exact .inr (.inl (show av' _ 14 11=true by decide+kernel))|apply And.intro)
   ·refine⟨?_,?_,?_,?_,?_,?_,?_,?_,?_,?_,?_,?_,?_,?_,?_,trivial⟩;all_goals
     intro cr D ak ab;have bp:=ak.size;have ao:=y' ak;clear ak;simp only[M',List.getD_cons_zero,List.getD_cons_succ,Array.getD_eq_getD_getElem?]at ab;try simp at ab
    iterate 4
     ·go_simp;exact⟨_,rfl,Far.refl _ _,rfl⟩
    ·have z0:D.cell? ⟨p,2,none⟩=some (.slice I un J):=by
      have h1:=(i' ao).rest p bU (by
       rintro⟨q,G,g1,g2,O⟩;simp at G;rcases G with rfl|rfl
       ·exact ai O
       ·exact absurd (show av' _ 14 4=false from g2) (by decide+kernel))
      exact(World.cell?_of_block h1).trans aP
     go_simp;exact⟨_,rfl,Far.refl _ _,rfl⟩
    iterate 3
     ·go_simp;exact⟨_,rfl,Far.refl _ _,rfl⟩
    ·have z0:D.cell? ⟨g,o+j,none⟩=some (.slice Y fl.length Z):=by
      have h1:=(i' ao).rest g bP (by
       rintro⟨q,G,_,_,O⟩;simp at G;rcases G with rfl|rfl
       ·exact bk O
       ·exact bO O)
      exact(World.cell?_of_block h1).trans aQ
     go_simp;exact⟨_,rfl,Far.refl _ _,rfl⟩
    ·have bq:ab' D (.slice Y fl.length Z) fl:=ax'.at (B:=B) (R' (w':=D) (i' bR) (fun k r=>(i' ao).rest k (bV k r) (by
      rintro⟨q,G,_,_,O⟩;simp at G;rcases G with rfl|rfl
      ·exact bm k r O
      ·exact bQ k r O)))
     have bW:=y' (lV' _ fl D bq aT (by omega));clear bq;go_simp;refine(i' bW).mono ?_;rintro bJ cs ⟨v9,rfl,aX,aI⟩;exact⟨_,rfl,C' aI,ax'.mono aX bp⟩
    ·have aY:ax' wr.heap.size D _ fl:=ab;obtain⟨cu,cv,aZ,_⟩:=aY.shape;have br:=y' aY;clear ab aY;rw[aZ]at br;go_simp;exact⟨_,rfl,C' ((Below.refl _ _).alloc (Nat.le_refl _) _),_,_,rfl,bp,heap_alloc_new D _,cf' (i' br) ((Below.refl _ _).alloc (Nat.le_refl _) _)⟩
    ·obtain⟨bX,bY,u9,bZ,cw,ca,aJ⟩:=ab;have cb:=R' (w':=D) (i' bT) (fun k r=>(i' ao).rest k (ah k r) (by
      rintro⟨q,G,g1,g2,O⟩;simp at G;rcases G with rfl|rfl
      ·exact g1 rfl
      ·have e:k=p:=O;exact ai (by rw[<-e];exact r)))
     obtain⟨_,_,aZ,_⟩:=aJ.shape;refine fl' rfl (.tmp 19) (.tmp 25) 32 rfl B 48 (.slice none 0 0) 1 24 Tryz.underlying32 (by kernel_rfl) rfl (by decide) (.slice I un J) un aj cb (by simp[Act.eval,bX]) ⟨bY,0,none⟩ 1 1 [u9] (by simp[Act.eval,bZ]) rfl ?_ (by intro u hu;simp at hu;subst hu;rw[aZ];rfl) (by unfold maxLen;omega) (by omega) (by omega) ?_
     ·intro k u r;rw[cO',t' ca,Nat.zero_add];simpa using r
     ·intro bt w' aX aI cc;refine⟨bt,rfl,aj' (.head _) (br' aI),u9,by rw[aU];exact aX,?_,fun k r=>?_⟩
      ·exact R' aJ (fun k r=>(br' aI).rest k (aJ.lt k r).2 (fun e=>by have:=ah k e;have:=(aJ.lt k r).1;omega))
      ·have r:bt.ownBlock=some k:=r;rcases cc with e|e
       ·exact .inl (by rw[<-e];exact r)
       ·rw[e]at r;injection r with r;exact .inr (by omega)
    iterate 2
     ·go_simp;exact⟨_,rfl,Far.refl _ _,rfl⟩
    ·have ba:Far (fun k=>(Value.slice I un J).ownBlock=some k) wr D:=(i' ao).mono (by
      rintro k _ ⟨q,G,g1,g2,O⟩;simp at G;rcases G with rfl|rfl
      ·exact O
      ·exact absurd rfl g1)
     have bb:=ba.blk (i' bo) ai;have cx:D.frozen? ⟨p,2,none⟩=false:=I' (i:=2) bb;have bu:∃v0,D.cell? ⟨p,2,none⟩=some v0:=⟨_,by rw[t' bb,<-t' (i' bo)];exact aP⟩;obtain⟨v0,bu⟩:=bu;obtain⟨cy,u9,bc,bw,bz⟩:=ab;obtain⟨cz,cA,cd,_⟩:=(aq' bc).shape;have bA:=y' (show gM' B wr.heap.size (.slice I un J) aj fl _ D from⟨u9,bc,bw,bz⟩);have ce:=y' ba;clear bc bw bz bb ba;rw[cd,aU]at bA;go_simp;exact⟨aj' (.tail _ (.head _)) (S' D p 2 _),i' bn D _ (i' ce) (i' bA)⟩
   ·intro M D bB bC;have bD:=bC.2.2.2.2.2.2.2.2.2.2.2.2.2.2.1;have cf:=y' bD;have cg:=y' (bB.mono (fun k _ h=>by
     obtain⟨q,G,h⟩:=h;simp at G;rcases G with rfl|rfl
     ·exact bj k h
     ·have:k=p:=h;omega):Far (fun k=>B<=k) wr D)
    clear bC bB bD;simp only[Y'];generalize M 15=cB;generalize M 16=cC;generalize M 17=cD;generalize M 18=cE;generalize M 19=cF;generalize M 20=cG;generalize M 21=cH;generalize M 22=cI;generalize M 23=cJ;generalize M 24=cK;generalize M 25=cL;generalize M 26=cM;generalize M 27=cN;generalize M 28=cO;go_wp2;go_roundw
    case rel=>exact⟨j+1,by omega,by go_num,i' cf,(i' aW).trans (i' cg) (fun _ _ h=>h)⟩
    case measure=>simp[intOf];omega
  ·have e:j=m:=by omega
   subst e;have cP:¬ (j:Int) < j:=by omega
   have ch:=y' F;have aW:=y' aB;have ci:=y' ad;clear F aB ad aA X;go_wp2;refine bodyPost_end (results_none rfl _ _ _) rfl ?_;refine⟨_,_,rfl,⟨rfl,rfl⟩,⟨z,i' ch,?_⟩,i' aW⟩;rw[i' ci,i' bF,i' bL,i' bM,List.take_length,i' bI]
end Go.Proofs.YtamafdcnbcoegabGreat
