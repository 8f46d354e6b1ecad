/-
  Part 8 of a proof: L6, L7, K8, L8, L9, L10, L11, MonoKey, K7, K9, K10, K11, K12, K13, K14, K16, L12, K17, L14, L15, L16, L17, L18, T3, L19, L20.
-/
import Derived.Test.YtamafdcnbcoegaaGreatSf7
set_option maxRecDepth 100000
set_option maxHeartbeats 40000000
namespace Go.Proofs.YtamafdcnbcoegaaGreat
open Go.RowKit
theorem we':(Tryz.prog.info? 3).map (·.size)=some 1:=by kernel_rfl
theorem rF' (S T:List Int) (w:World):∀ (f:List Nat),(∀i∈f,i < S.length/\i < T.length)->
  (Op.eqItems 9999 3 1 (S.map (Value.int .i64)).toArray (T.map (Value.int .i64)).toArray f).run Tryz.prog w= .ok (f.all fun i=>S.getD i 0==T.getD i 0) w
 |[],_=>by simp[Op.eqItems]
 |i::f,h=>by
  have h0:=h i (.head _);have r:(S.map (Value.int .i64)).toArray[i]? =some (.int .i64 (S.getD i 0)):=by simp[h0.1,List.getD_eq_getElem?_getD]
  have u:(T.map (Value.int .i64)).toArray[i]? =some (.int .i64 (T.getD i 0)):=by simp[h0.2,List.getD_eq_getElem?_getD]
  have z:=run_part_plain (P:=Tryz.prog) w (e:=3) (by kernel_rfl) (off:=i) r;have D:=run_part_plain (P:=Tryz.prog) w (e:=3) (by kernel_rfl) (off:=i) u;have F:=run_equalIn_int (P:=Tryz.prog) w 9998 3 .i64 .i64 (S.getD i 0) (T.getD i 0) Tryz.underlying3;have ih:=rF' S T w f (fun j hj=>h j (.tail _ hj));simp only[Op.eqItems,Nat.mul_one,Sem.run_bind,z,D,F,Result.andThen_ok,List.all_cons];cases G:(S.getD i 0==T.getD i 0)
  ·simp
  ·simpa using ih
theorem hw' (a b c d e f:Int) (w:World):(Op.equalIn 10000 136 (.agg #[.int .i64 a, .int .i64 b, .int .i64 c]) (.agg #[.int .i64 d, .int .i64 e, .int .i64 f])).run Tryz.prog w= .ok (a==d&& (b==e&&c==f)) w:=by
 obtain⟨i,hi⟩:∃i,Tryz.prog.info? 3=some i:=by
  have:=we';cases h:Tryz.prog.info? 3 with
  |none=>rw[h]at this;cases this
  |some i=>exact⟨i,rfl⟩
 have r:Tryz.prog.cellsOf 3=1:=by kernel_rfl
 have e:=rF' [a,b,c] [d,e,f] w (List.range 3) (fun i hi=>by have:=List.mem_range.1 hi;simp;omega);rw[<-r]at e;refine(run_equalIn_array (P:=Tryz.prog) w 9999 #[.int .i64 a, .int .i64 b, .int .i64 c] _ Tryz.underlying136 hi).trans (e.trans ?_);simp[List.range_succ]
def vM' (B:Nat) (n:Nat) (v:Value) (w:World):Prop:=∃g,v= .slice (some ⟨g,0,none⟩) 1 1/\B<=g/\w.heap[g]? =some (.cells #[.int .i64 n] 3 (0,0))
theorem oJ' (B n:Nat):bA' (vM' B n):=fun _ _ _ h f=>by
 obtain⟨g,e,h1,h2⟩:=h;exact⟨g,e,h1,(f.block g (lt_of_block h2)).trans h2⟩
theorem hx' {B n:Nat} {E:Nat->Prop} (f:∀k,E k->k < B):aU' E (vM' B n):=fun _ _ _ h hF=>by
 obtain⟨g,e,h1,h2⟩:=h;exact⟨g,e,h1,hF.blk h2 (fun e=>by have:=f _ e;omega)⟩
def vN' (w0:World) (fv:Value) (l:List Nat) (v:Value) (w:World):Prop:=ao' w 3 1 v l.length (H' l)/\Loc w0 fv v/\w0.heap.size<=w.heap.size
theorem oK' (w0:World) (fv:Value) (l:List Nat):bA' (vN' w0 fv l):=fun _ _ _ h f=>
 ⟨h.1.keep (fun g r=>f.block g (h.1.lt g r)),h.2.1,Nat.le_trans h.2.2 f.size⟩
theorem nj' {w0:World} {fv:Value} {l:List Nat} {E:Nat->Prop} (r:∀k,E k->k < w0.heap.size/\fv.ownBlock≠some k):aU' E (vN' w0 fv l):=fun _ _ _ h hF=>
 ⟨h.1.far hF (fun g f e=>by
  obtain⟨h1,h2⟩:=r g e;rcases h.2.1 with h3|h3|⟨k,h3,h4⟩
  ·rw[h3]at f;cases f
  ·rw[h3]at f;exact h2 f
  ·rw[h3]at f;cases f;omega),h.2.1,Nat.le_trans h.2.2 hF.size⟩
def agD (a:Mod.Ag) (n:Nat->Nat) (j:Nat):Mod.Ag:={a with fl:=Mod.dropTo a.fl n j}
theorem tF' (a:Mod.Ag) (n:Nat->Nat):agD a n 0=a:=by unfold agD;rw[Mod.dropTo_zero]
theorem kv' (a:Mod.Ag) (n:Nat->Nat) (j:Nat):(agD a n j).fl j=a.fl j:=Mod.dropTo_self _ _ _
theorem tG' (a:Mod.Ag) (n:Nat->Nat) (j:Nat):agD a n (j+1)={agD a n j with fl:=Mod.upd (agD a n j).fl j (((agD a n j).fl j).drop (n j))}:=by
 unfold agD;simp only[Mod.dropTo_succ,Mod.dropTo_self]
theorem sy' (a:Mod.Ag) (n:Nat->Nat):agD a n 3=a.drop n:=rfl
theorem sz' {a:Mod.Ag} {n:Nat->Nat} (h:∀i,i < 3->n i=0):a.drop n=a:=by
 unfold Mod.Ag.drop;have:Mod.dropTo a.fl n 3=a.fl:=by
  funext t;unfold Mod.dropTo;split
  ·rename_i f;rw[h t f];simp[Mod.Flow.drop]
  ·rfl
 rw[this]
theorem kw':∀ (b:Nat) (k:List (ByteArray×Nat)) (p:List Nat) (t:Nat),p.length=k.length->(f:t < k.length)->(ex' (aB' b k p))[t * 2]? =some (.string k[t].1)/\(ex' (aB' b k p))[t * 2+1]? =some (.int .i64 (p.getD t 0:Nat))
 |b,[],_,t,_,f=>by simp at f
 |b,_:: _,[],t,h,_=>by simp at h
 |b,x::r,q::u,0,_,_=>by rw[aM'];exact⟨rfl,rfl⟩
 |b,x::r,q::u,t+1,h,f=>by have ih:=kw' (b+1) r u t (by simpa using h) (by simpa using f);rw[aM'];have z:ex' ((b+1,bZ' x.1 q)::aB' (b+1) r u)=[.string x.1, .int .i64 q]++ex' (aB' (b+1) r u):=rfl;rw[z,show(t+1) * 2=t * 2+2 by omega,show t * 2+2+1=t * 2+1+2 by omega,List.getElem?_append_right (by simp),List.getElem?_append_right (by simp)];simpa using ih
theorem kx':∀ (n b:Nat) (k:List (ByteArray×Nat)) (p:List Nat),(aB' b k p).take n=aB' b (k.take n) (p.take n)
 |0,b,k,p=>by cases k <;> cases p <;> rfl
 |n+1,b,[],p=>by cases p <;> rfl
 |n+1,b,x::f,[]=>rfl
 |n+1,b,x::f,q::r=>by rw[aM',List.take_succ_cons,List.take_succ_cons,List.take_succ_cons,aM',kx' n (b+1) f r]
theorem nk' {w x y:World} {p o:Nat} {t:TypeId} {arr:Array Value} {nv mv:Value} {l:List (Nat×Value)} (h:dA' w x p o t arr nv mv l) (f:Below x.heap.size x y):dA' w y p o t arr nv mv l:=by
 obtain⟨⟨nv',S,e⟩,hF⟩:=h;exact⟨⟨nv',⟨(f.block _ (lt_of_block S.blk)).trans S.blk,S.c0,S.c1,S.sh.far (A' (E:=fun _=>False) f) (fun _ _ h=>h),S.ty⟩,e⟩,hF.trans (A' f) (fun _ _ h=>h)⟩
section
variable {w:World} {p:Nat} {g:Nat->Nat} {free:List Nat} {sh:Nat->List (Nat×Value)} {st:Mod.Stv} {c:Av} {a:Mod.Ag} {pl:Nat->List Nat}
theorem qH' (r:aA' w p g a.ticks a.welcome a.fenced free sh st c) (f:Nat->Nat) (D:∀i,i < 3->f i=g i):
  Calls Tryz.prog 152 #[y' p, .agg #[.int .i64 (f 0), .int .i64 (f 1), .int .i64 (f 2)]] w fun O u=>O= .returned (.int .i64 0)/\Below w.heap.size w u:=by
 have g0:w.cell? ⟨p,1,none⟩=some (.int .i64 (f 0)):=by rw[m' r.ks.blk,D 0 (by omega)];exact r.ks.ag 0 (by omega)
 have g1:w.cell? ⟨p,2,none⟩=some (.int .i64 (f 1)):=by rw[m' r.ks.blk,D 1 (by omega)];exact r.ks.ag 1 (by omega)
 have g2:w.cell? ⟨p,3,none⟩=some (.int .i64 (f 2)):=by rw[m' r.ks.blk,D 2 (by omega)];exact r.ks.ag 2 (by omega)
 have G:=lt_of_block r.ks.blk;generalize f 0=H at *;generalize f 1=I at *;generalize f 2=J at *;have X:∀u:World,(Op.equalIn 10000 136 (.agg #[.int .i64 H, .int .i64 I, .int .i64 J]) (.agg #[.int .i64 H, .int .i64 I, .int .i64 J])).run Tryz.prog u= .ok true u:=fun u=>by rw[hw'];simp
 clear r D;unfold y';go_enter Tryz.func152,Tryz.ntmps152;go_upto_region 1 with fail;refine C' (fun x=>x.heap[w.heap.size]? =some (.cells #[.int .i64 H, .int .i64 I, .int .i64 J] 136 (0,0))/\Below w.heap.size w x) ⟨heap_alloc_new _ _,(Below.refl _ _).alloc (Nat.le_refl _) _⟩ ?_;rintro x ⟨F,z⟩;have Q:=m' (i:=0) F;have U:=m' (i:=1) F;have V:=m' (i:=2) F;simp at Q U V;have z0:=(z.cell (p:=⟨p,1,none⟩) G).trans g0;have Y:=(z.cell (p:=⟨p,2,none⟩) G).trans g1;have Z:=(z.cell (p:=⟨p,3,none⟩) G).trans g2;have M:=t' z;clear F z g0 g1 g2;go_quiet (fail);go_wp2;go_ret;exact⟨rfl,(i' M).trans (below_drewN (Below.refl _ _) _ |>.mono (i' M).size)⟩
theorem oL' {tk:Nat} {wel fen:Bool} (f:aA' w p g tk wel fen free sh st c) (r:Nat->Nat):
  az' w (((w.setCell ⟨p,1,none⟩ (.int .i64 (r 0))).setCell ⟨p,2,none⟩ (.int .i64 (r 1))).setCell ⟨p,3,none⟩ (.int .i64 (r 2))) p r tk wel fen free sh st c:=by
 have u:∀ {w:World} {c:Av} {g:Nat->Nat} (i:Nat) (hi:i < 3) (v:Nat),aA' w p g tk wel fen free sh st c->az' w (w.setCell ⟨p,1+i,none⟩ (.int .i64 v)) p (fun t=>if t=i then v else g t) tk wel fen free sh st c:=by
  intro w c g i hi v f;have F:=f.ks.sz;refine ec' f (1+i) (.int .i64 v) (.inl (by omega)) (fun j hj=>?_) ?_ ?_ ?_
  ·by_cases e:j=i
   ·subst e;have:1+j < c.arr.size:=by omega
    simp[this]
   ·rw[Array.getElem?_setIfInBounds_ne (by omega),f.ks.ag j hj,if_neg e]
  ·rw[Array.getElem?_setIfInBounds_ne (by omega)];exact f.ks.at'
  ·rw[Array.getElem?_setIfInBounds_ne (by omega)];exact f.ks.aw
  ·rw[Array.getElem?_setIfInBounds_ne (by omega)];exact f.ks.ae
 have h1:=u 0 (by omega) (r 0) f;have h2:=h1.trans (fun z h=>u 1 (by omega) (r 1) h);have h3:=h2.trans (fun z h=>u 2 (by omega) (r 2) h);obtain⟨z,h,D⟩:=h3;refine⟨z,⟨{h.ks with ag:=fun i hi=>?_},h.stt,h.rl,h.len⟩,D⟩;rw[h.ks.ag i hi];obtain rfl|rfl|rfl:i=0\/i=1\/i=2:=by omega
 all_goals simp
end
theorem rG' {a:Mod.Sk} {sh:Nat->List (Nat×Value)} (f:da' a.held sh) (A:∀s,s < 3->gD' (sh s)) {s:Nat} (hs:s < 3) (q:Nat):(an' (sh s) (q:Int)).isSome=(a.ix s q).isSome:=by
 cases h:a.ix s q with
 |none=>
  rcases fZ' (A s hs) (q:Int)with ⟨b,hl⟩|hl
  ·exact absurd ((f s hs q b).1 hl) (jO' h b)
  ·rw[hl];rfl
 |some i=>rw[(f s hs q _).2 (jN' h)];rfl
theorem oM' {a:Mod.Sk} {sh:Nat->List (Nat×Value)} (f:da' a.held sh) (A:∀s,s < 3->gD' (sh s)) {s:Nat} (hs:s < 3) (up:Nat):∀j,bX' (sh s) up j=dW' a s up j
 |0=>rfl
 |j+1=>by rw[bX',dW',oM' f A hs up j,rG' f A hs]
theorem lO' {a:Mod.Sk} {sh:Nat->List (Nat×Value)} (f:da' a.held sh) (A:∀s,s < 3->gD' (sh s)) {s:Nat} (hs:s < 3) (up:Nat):(⟨#[UInt8.ofNat (bX' (sh s) up 3)]⟩:ByteArray)=ackBody a s up:=by
 rw[oM' f A hs up 3];rfl
theorem fB' {a:Mod.Sk} {st q n:Nat}:∀ (f:Nat) (out:List ByteArray),120<=n+out.length+f->¬ (n+(a.commitFrom st q n f out).length < 120)\/a.ix st (q+(a.commitFrom st q n f out).length)=none
 |0,out,h=> .inl (by show ¬ (n+out.length < 120);omega)
 |f+1,out,h=>by
  by_cases r:n+out.length < 120
  ·cases hi:a.ix st (q+out.length)with
   |none=>rw[Mod.Sk.commitFrom_none r hi];exact .inr hi
   |some i=>rw[Mod.Sk.commitFrom_some r hi];exact fB' f _ (by simp;omega)
  ·rw[Mod.Sk.commitFrom_stop r];exact .inl r
theorem oN' {a:Mod.Sk} (u:bh' a) (s q:Nat) (b:ByteArray) (D:b.size<=20):bh' (bB' a s q b):=by
 unfold bB';split
 ·rename_i h;obtain⟨h1,h2,h3⟩:=h;refine⟨fun x r=>?_,fun F t G c f=>?_⟩
  ·simp only[List.mem_append,List.mem_singleton]at r;rcases r with r|rfl
   ·exact u.bod x r
   ·exact D
  ·simp only[List.mem_append,List.mem_singleton]at f;rcases f with f|f
   ·exact u.nxt F t G c f
   ·injection f with H z;injection z with z I;subst H;omega
 ·exact u
theorem oO' {a:Mod.Sk} (u:bh' a) (s:Nat) (b:ByteArray) (hs:s < 3) (F:a.count < 120):bh' (bT' a s (a.commitFrom s ((a.logs s).length+1) a.count 120 [b])):=by
 have z:=fB' (a:=a) (st:=s) (q:=(a.logs s).length+1) (n:=a.count) 120 [b] (by omega);obtain⟨f,G⟩:∃f,f=a.commitFrom s ((a.logs s).length+1) a.count 120 [b]:=⟨_,rfl⟩;rw[<-G]at z ⊢;have H:(bT' a s f).count=a.count+f.length:=fw' a s hs f;refine⟨fun x I=>u.bod x (List.mem_filter.1 (show x∈a.held.filter _ from I)).1,fun D t J c M=>?_⟩;rw[H]at D;have r:(t,((bT' a s f).logs t).length+1,c) ∈a.held:=(List.mem_filter.1 (show _∈a.held.filter _ from M)).1;by_cases e:t=s
 ·subst e;rw[os',List.length_append]at r;rcases z with h|h
  ·exact h D
  ·rw[show(a.logs t).length+1+f.length=(a.logs t).length+f.length+1 by omega]at h;exact jO' h c r
 ·have hl:(bT' a s f).logs t=a.logs t:=by show(if t=s then _ else a.logs t)= _;rw[if_neg e]
  rw[hl]at r;exact u.nxt F t J c r
theorem nl' {a:Mod.Sk} (f:bh' a) (e:Nat):bh' (aX' a e):=by
 unfold aX' dr';split
 ·exact⟨fun x r=>by simp at r,fun _ t _ c u=>by simp at u⟩
 ·exact⟨f.bod,f.nxt⟩
theorem hy' {a:Mod.Sk} {s:Nat} {b:ByteArray} (f:a.count < 120):a.commits 3 a.epoch s ((a.logs s).length+1:Nat) b=a.commitFrom s ((a.logs s).length+1) a.count 120 [b]:=by
 unfold Mod.Sk.commits;rw[if_neg (by simp),if_neg (by omega)];simp
theorem ep' {a:Mod.Sk} {s q:Nat} {b:ByteArray} (h:¬ (q=(a.logs s).length+1/\a.count < 120)):a.commits 3 a.epoch s q b=[]:=by
 unfold Mod.Sk.commits;by_cases h1:q=(a.logs s).length+1
 ·rw[if_neg (by simp[h1]),if_pos (by omega)]
 ·rw[if_pos (by right;right;simp;omega)]
theorem hA' {a:Mod.Sk} {s:Nat} {b:ByteArray} (f:a.count < 120):aq' a 3 a.epoch s ((a.logs s).length+1) b=bT' a s (a.commitFrom s ((a.logs s).length+1) a.count 120 [b]):=by
 unfold aq';rw[hy' f,if_neg (gh' (by simp))]
theorem eN' {a:Mod.Sk} {s q:Nat} {b:ByteArray} (h:¬ (q=(a.logs s).length+1/\a.count < 120)):aq' a 3 a.epoch s q b=bB' a s q b:=by
 unfold aq';rw[ep' h,if_pos rfl]
theorem nm' {a:Mod.Sk} (f:bh' a) (s q:Nat) (b:ByteArray) (hs:s < 3) (u:b.size<=20):bh' (aq' a 3 a.epoch s q b):=by
 by_cases h:q=(a.logs s).length+1/\a.count < 120
 ·obtain⟨rfl,r⟩:=h;rw[hA' r];exact oO' f s b hs r
 ·rw[eN' h];exact oN' f s q b u
theorem sA' {a:Mod.Sk} {sh:Nat->List (Nat×Value)} (f:da' a.held sh) (s q:Nat) (b:ByteArray) (hs:s < 3) (u:a.ix s q=none):da' (a.held++[(s,q,b)]) (fun t=>if t=s then aV' (sh s) q (dg' b)else sh t):=by
 intro t r n c;show an' (if t=s then _ else sh t) _= _↔ _;rw[List.mem_append,List.mem_singleton];by_cases e:t=s
 ·subst e;rw[if_pos rfl,fU'];unfold jx';by_cases h1:(n:Int)=(q:Int)
  ·have z:n=q:=by omega
   subst z;rw[if_pos rfl];constructor
   ·intro h;injection h with h;unfold dg' at h;injection h with h;have:c=b:=by have:=congrArg Array.toList h;simp at this;exact this.symm
    subst this;exact .inr rfl
   ·rintro(h|h)
    ·exact absurd h (jO' u c)
    ·injection h with _ h;injection h with _ h;rw[h]
  ·rw[if_neg h1,f t r n c];constructor
   ·exact .inl
   ·rintro(h|h)
    ·exact h
    ·injection h with _ h;injection h with h _;omega
 ·rw[if_neg e,f t r n c];constructor
  ·exact .inl
  ·rintro(h|h)
   ·exact h
   ·injection h with h _;exact absurd h e
theorem tH':da' [] (fun _=>[]):=by
 intro t _ n c;simp[an']
structure aZ' (w:World) (cs:Array Value) (x:World):Prop where
 box:x.heap[w.heap.size]? =some (.cells cs 41 (0,0))
 bel:Below w.heap.size w x
theorem cA' (w:World) (f:Array Value):aZ' w f (w.alloc (.cells f 41)):=⟨heap_alloc_new _ _,(Below.refl _ _).alloc (Nat.le_refl _) _⟩
theorem aZ'.lt {w x:World} {f:Array Value} (h:aZ' w f x):w.heap.size < x.heap.size:=lt_of_block h.box
theorem aZ'.below {w x y:World} {f:Array Value} (h:aZ' w f x) (r:Below x.heap.size x y):aZ' w f y:=
 ⟨(r.block _ h.lt).trans h.box,h.bel.trans (r.mono h.bel.size)⟩
theorem aZ'.drewN {w x:World} {f:Array Value} (h:aZ' w f x) (n:Nat):aZ' w f (x.drewN n):=h.below (below_drewN (Below.refl _ _) n)
theorem qI' {a:Mod.Sk} {sh:Nat->List (Nat×Value)} (D:ay' a) (F:da' a.held sh) (A:∀s,s < 3->gD' (sh s)) {s:Nat} (hs:s < 3) (G:((sh s).map (·.1)).Pairwise (· < ·)):(sh s).length < 1000:=by
 have f:∀n∈ (sh s).map (·.1),(a.logs s).length+1<=n/\n<=(a.logs s).length+4:=by
  intro n r;have z:(an' (sh s) (n:Int)).isSome=true:=by rw[fn'];simpa using r
  rcases fZ' (A s hs) (n:Int)with ⟨b,hl⟩|hl
  ·have u:=(F s hs n b).1 hl;exact(D.held _ u).2
  ·rw[hl]at z;cases z
 have h1:(((sh s).map (·.1)).map fun n=>n - (a.logs s).length - 1).Nodup:=by rw[List.Nodup,List.pairwise_map];refine G.imp_of_mem (fun {x y} H I J e=>?_);have M:=f x H;have O:=f y I;omega
 have h2:=hp' 4 _ h1 (fun n r=>by obtain⟨m,u,rfl⟩:=List.mem_map.1 r;have:=f m u;omega);simp at h2;omega
section
variable {w x:World} {p:Nat} {g:Nat->Nat} {tk:Nat} {wel fen:Bool} {free:List Nat} {sh:Nat->List (Nat×Value)} {st:Mod.Stv} {c:Av} {a:Mod.Ag} {pl:Nat->List Nat}
theorem qJ' (f:aA' w p g tk wel fen free sh st c) (v:Bool):az' w (w.setCell ⟨p,25,none⟩ (.bool v)) p g tk wel v free sh st c:=by
 have r:=f.ks.sz;refine ec' f 25 (.bool v) (.inr (by omega)) (fun j hj=>?_) ?_ ?_ ?_
 ·rw[Array.getElem?_setIfInBounds_ne (by omega)];exact f.ks.ag j hj
 ·rw[Array.getElem?_setIfInBounds_ne (by omega)];exact f.ks.at'
 ·rw[Array.getElem?_setIfInBounds_ne (by omega)];exact f.ks.aw
 ·have:25 < c.arr.size:=by omega
  simp[this]
theorem ky' (f:aA' w p g tk wel fen free sh st c) (v:Bool):az' w (w.setCell ⟨p,24,none⟩ (.bool v)) p g tk v fen free sh st c:=by
 have r:=f.ks.sz;refine ec' f 24 (.bool v) (.inr (by omega)) (fun j hj=>?_) ?_ ?_ ?_
 ·rw[Array.getElem?_setIfInBounds_ne (by omega)];exact f.ks.ag j hj
 ·rw[Array.getElem?_setIfInBounds_ne (by omega)];exact f.ks.at'
 ·have:24 < c.arr.size:=by omega
  simp[this]
 ·rw[Array.getElem?_setIfInBounds_ne (by omega)];exact f.ks.ae
theorem ee' (f:aA' w p g tk wel fen free sh st c) (v:Nat):az' w (w.setCell ⟨p,23,none⟩ (.int .i64 v)) p g v wel fen free sh st c:=by
 have r:=f.ks.sz;refine ec' f 23 (.int .i64 v) (.inr (by omega)) (fun j hj=>?_) ?_ ?_ ?_
 ·rw[Array.getElem?_setIfInBounds_ne (by omega)];exact f.ks.ag j hj
 ·have:23 < c.arr.size:=by omega
  simp[this]
 ·rw[Array.getElem?_setIfInBounds_ne (by omega)];exact f.ks.aw
 ·rw[Array.getElem?_setIfInBounds_ne (by omega)];exact f.ks.ae
theorem aO'.flags {op:Nat} (f:aO' a op g free sh pl) (tk:Nat) (wel fen:Bool):aO' {a with ticks:=tk,welcome:=wel,fenced:=fen} op g free sh pl:=
 ⟨f.ep,f.bs,f.pn,f.kp,f.sn,f.si,f.hd,f.hu,f.hl,f.nd,f.lt,f.sum⟩
end
def clr (sh:Nat->List (Nat×Value)) (j:Nat) (t:Nat):List (Nat×Value):=if t % 3≠0/\t < j * 3 then []else sh t
theorem tI' (sh:Nat->List (Nat×Value)):clr sh 0=sh:=by funext t;unfold clr;rw[if_neg (by omega)]
theorem tJ' (sh:Nat->List (Nat×Value)) (j:Nat):(fun t=>if t=j * 3+2 then([]:List (Nat×Value))else(fun t=>if t=j * 3+1 then []else clr sh j t) t)=clr sh (j+1):=by
 funext t;unfold clr;by_cases h1:t=j * 3+2
 ·rw[if_pos h1,if_pos (by omega)]
 ·rw[if_neg h1];show(if t=j * 3+1 then([]:List (Nat×Value))else _)= _;by_cases h2:t=j * 3+1
  ·rw[if_pos h2,if_pos (by omega)]
  ·rw[if_neg h2];by_cases h3:t % 3≠0/\t < j * 3
   ·rw[if_pos h3,if_pos (by omega)]
   ·rw[if_neg h3,if_neg (by omega)]
section
variable {w:World} {p:Nat} {g:Nat->Nat} {free:List Nat} {sh:Nat->List (Nat×Value)} {st:Mod.Stv} {c:Av} {a:Mod.Ag} {op:Nat} {pl:Nat->List Nat}
theorem qK' (f:aO' a op g free sh pl):aO' {a with welcome:=true,fl:=Mod.fresh a.fl 3} op g free (clr sh 3) pl:=by
 have r:∀i,i < 3->Mod.fresh a.fl 3 i={a.fl i with kept:=(a.fl i).kept.map fun u=>(u.1,0),held:=[]}:=fun i hi=>by unfold Mod.fresh;rw[if_pos hi]
 refine⟨f.ep,fun i hi=>?_,fun i hi=>?_,fun i hi=>?_,fun i hi n=>?_,fun i hi=>?_,fun i hi n=>?_,fun i hi=>?_,fun i hi=>?_,f.nd,f.lt,?_⟩
 ·show g i=(Mod.fresh a.fl 3 i).base;rw[r i hi];exact f.bs i hi
 ·show(pl i).length=(Mod.fresh a.fl 3 i).kept.length;rw[r i hi];simpa using f.pn i hi
 ·show clr sh 3 (i * 3)=aB' (Mod.fresh a.fl 3 i).base (Mod.fresh a.fl 3 i).kept (pl i);unfold clr;rw[if_neg (by omega),r i hi,f.kp i hi];exact eM' _ _ _ _ (by simp)
 ·show an' (clr sh 3 (i * 3+1)) _=cH' (Mod.fresh a.fl 3 i) n;unfold clr;rw[if_pos (by omega),r i hi];unfold cH';simp only
  split
  ·rfl
  ·cases h:((a.fl i).kept.map fun u=>(u.1,0))[n - (a.fl i).base - 1]? with
   |none=>rfl
   |some x=>
    rw[List.getElem?_map]at h;cases D:(a.fl i).kept[n - (a.fl i).base - 1]? with
    |none=>rw[D]at h;cases h
    |some y=>rw[D]at h;cases h;rfl
 ·show kr' (clr sh 3 (i * 3+1));unfold clr;rw[if_pos (by omega)];intro x z;cases z
 ·show(an' (clr sh 3 (i * 3+2)) _).isSome=(Mod.fresh a.fl 3 i).held.contains n;unfold clr;rw[if_pos (by omega),r i hi];rfl
 ·show nf' (clr sh 3 (i * 3+2));unfold clr;rw[if_pos (by omega)];intro x z;cases z
 ·show(clr sh 3 (i * 3+2)).length<=3;unfold clr;rw[if_pos (by omega)];simp
 ·have h:=f.sum;have h2:Mod.Ag.room {a with welcome:=true,fl:=Mod.fresh a.fl 3}=a.room:=by simp[Mod.Ag.room,Mod.fresh]
  rw[h2];exact h
theorem rH' (b l:Nat) (n:Int):max (b:Int) (min n ((b+l:Nat):Int))=((b+min (n - b).toNat l:Nat):Int):=by omega
theorem kz' (z:aA' w p g a.ticks a.welcome a.fenced free sh st c) (D:aO' a st.opening g free sh pl) (e:Nat) (s q:Int) (b:ByteArray) (I:e≠a.epoch):
  Calls Tryz.prog 104 #[y' p, .agg #[.int .i64 2, .int .i64 e, .int .i64 s, .int .i64 q, .string b]] w fun J r=>J= .returned (.int .i64 0)/\Below w.heap.size w r:=by
 have F:=fun r (M:Below w.heap.size w r)=>t' (bk' (z.below M));obtain⟨ep,u⟩:∃ep,ep=a.epoch:=⟨_,rfl⟩;have G:st.opening=ep:=by rw[u];exact D.ep
 rw[G]at F;rw[<-u]at I;have H:=t' (cA' w #[.int .i64 2, .int .i64 e, .int .i64 s, .int .i64 q, .string b]);have V:((e:Int) != (ep:Int))=true:=by simp;omega
 clear z D G u;unfold y' at *;go_enter Tryz.func104,Tryz.ntmps104;go_upto_region 1 with fail;refine C' (aZ' w #[.int .i64 2, .int .i64 e, .int .i64 s, .int .i64 q, .string b]) (i' H) ?_;clear H;intro x f;have O:=m' (i:=1) f.box;simp at O;have Q:=fun n=>t' (i' (F (x.drewN n) (f.drewN n).bel));have U:=t' f;clear f;go_quiet (first|(go_at_call 66;exact Calls.quiet_of_same (i' (Q _))));go_wp2;go_ret;exact⟨rfl,((i' U).drewN _).bel⟩
end
theorem kA' {P:List Nat->Prop} (h0:P []) (h1:∀l n,P l->P (l++[n])) (l:List Nat):P l:=by
 have f:∀ (k:Nat) (l:List Nat),l.length=k->P l:=by
  intro k;induction k with
  |zero=>intro l hl;rw[List.length_eq_zero_iff.1 hl];exact h0
  |succ k ih=>
   intro l hl;rcases List.eq_nil_or_concat l with rfl|⟨r,n,rfl⟩
   ·simp at hl
   ·rw[List.concat_eq_append];exact h1 _ _ (ih _ (by simpa using hl))
 exact f _ l rfl
theorem eO' (l:List Nat) (n:Nat):(l++[n]).foldl (fun l n=>aV' l n cF') []=aV' (l.foldl (fun l n=>aV' l n cF') []) n cF':=by simp
theorem qL':∀ (l:List Nat),nf' (l.foldl (fun l n=>aV' l n cF') []):=by
 refine kA' (fun x f=>by cases f) (fun l n ih=>?_)
 ·rw[eO'];intro x f;rcases gY' f with rfl|f
  ·rfl
  ·exact ih x f
theorem mw':∀ (l:List Nat),(l.foldl (fun l n=>aV' l n cF') []).length<=l.length:=by
 refine kA' (by simp) (fun l n ih=>?_)
 ·rw[eO'];have:=fp' (l.foldl (fun l n=>aV' l n cF') []) n cF';simp;omega
theorem qM':∀ (l:List Nat) (n:Nat),(an' (l.foldl (fun l n=>aV' l n cF') []) (n:Int)).isSome=l.contains n:=by
 refine kA' (fun n=>rfl) (fun l m ih=>?_)
 ·intro n;rw[eO',fU'];unfold jx';by_cases h:(n:Int)=(m:Int)
  ·have f:n=m:=by omega
   subst f;rw[if_pos rfl];simp
  ·rw[if_neg h,ih n];have f:¬n=m:=by omega
   simp[f]
section
variable {g:Nat->Nat} {free:List Nat} {sh:Nat->List (Nat×Value)} {a:Mod.Ag} {op:Nat} {pl:Nat->List Nat}
theorem sB' (f:aO' a op g free sh pl) {s:Nat} (hs:s < 3) (l:List Nat) (hl:l.length<=3):
  aO' {a with fl:=Mod.upd a.fl s {a.fl s with held:=l}} op g free (fun t=>if t=s * 3+2 then l.foldl (fun l n=>aV' l n cF') []else sh t) pl:=by
 have r:∀j,Mod.upd a.fl s {a.fl s with held:=l} j=if j=s then {a.fl s with held:=l}else a.fl j:=fun j=>rfl
 refine⟨f.ep,fun j hj=>?_,fun j hj=>?_,fun j hj=>?_,fun j hj n=>?_,fun j hj=>?_,fun j hj n=>?_,fun j hj=>?_,fun j hj=>?_,f.nd,f.lt,?_⟩
 ·show g j=(Mod.upd a.fl s {a.fl s with held:=l} j).base;rw[r];by_cases e:j=s
  ·subst e;rw[if_pos rfl];exact f.bs j hj
  ·rw[if_neg e];exact f.bs j hj
 ·show(pl j).length=(Mod.upd a.fl s {a.fl s with held:=l} j).kept.length;rw[r];by_cases e:j=s
  ·subst e;rw[if_pos rfl];exact f.pn j hj
  ·rw[if_neg e];exact f.pn j hj
 ·show(if j * 3=s * 3+2 then _ else sh (j * 3))=aB' (Mod.upd a.fl s {a.fl s with held:=l} j).base (Mod.upd a.fl s {a.fl s with held:=l} j).kept (pl j);rw[if_neg (by omega),r];by_cases e:j=s
  ·subst e;rw[if_pos rfl];exact f.kp j hj
  ·rw[if_neg e];exact f.kp j hj
 ·show an' (if j * 3+1=s * 3+2 then _ else sh (j * 3+1)) _=cH' (Mod.upd a.fl s {a.fl s with held:=l} j) n;rw[if_neg (by omega),r];by_cases e:j=s
  ·subst e;rw[if_pos rfl];exact f.sn j hj n
  ·rw[if_neg e];exact f.sn j hj n
 ·show kr' (if j * 3+1=s * 3+2 then _ else sh (j * 3+1));rw[if_neg (by omega)];exact f.si j hj
 ·show(an' (if j * 3+2=s * 3+2 then _ else sh (j * 3+2)) _).isSome=(Mod.upd a.fl s {a.fl s with held:=l} j).held.contains n;rw[r];by_cases e:j=s
  ·subst e;rw[if_pos rfl,if_pos rfl];exact qM' l n
  ·rw[if_neg (by omega),if_neg e];exact f.hd j hj n
 ·show nf' (if j * 3+2=s * 3+2 then _ else sh (j * 3+2));by_cases e:j=s
  ·subst e;rw[if_pos rfl];exact qL' l
  ·rw[if_neg (by omega)];exact f.hu j hj
 ·show(if j * 3+2=s * 3+2 then _ else sh (j * 3+2)).length<=3;by_cases e:j=s
  ·subst e;rw[if_pos rfl];exact Nat.le_trans (mw' l) hl
  ·rw[if_neg (by omega)];exact f.hl j hj
 ·have h:=f.sum;obtain⟨u,z⟩:∃u,u=({a.fl s with held:=l}:Mod.Flow):=⟨_,rfl⟩;have D:u.kept.length=(a.fl s).kept.length:=by rw[z]
  have h2:=hv' (a:=a) hs u;rw[<-z];omega
end
theorem vv' {b:ByteArray} (h:0 < b.size):b[0].toNat=(b.data.toList.getD 0 0).toNat:=by
 have f:0 < b.data.size:=h;simp[List.getD_eq_getElem?_getD,Array.getElem?_eq_getElem f,ByteArray.getElem_eq_getElem_data]
section
variable {w:World} {p:Nat} {g:Nat->Nat} {free:List Nat} {sh:Nat->List (Nat×Value)} {st:Mod.Stv} {c:Av} {a:Mod.Ag} {pl:Nat->List Nat}
theorem nn' (f:aA' w p g a.ticks a.welcome a.fenced free sh st c) (D:aO' a st.opening g free sh pl) (e:Nat) (s q:Int) (b:ByteArray) (F:e≠a.epoch\/a.welcome=false):
  Calls Tryz.prog 105 #[y' p, .agg #[.int .i64 4, .int .i64 e, .int .i64 s, .int .i64 q, .string b]] w fun U u=>U= .returned (.int .i64 0)/\Below w.heap.size w u:=by
 have G:=fun u (V:Below w.heap.size w u)=>t' (bk' (f.below V));have X:=lt_of_block f.ks.blk;have H:w.cell? ⟨p,24,none⟩=some (.bool a.welcome):=by rw[m' f.ks.blk,f.ks.aw]
 obtain⟨ep,z⟩:∃ep,ep=a.epoch:=⟨_,rfl⟩;have I:st.opening=ep:=by rw[z];exact D.ep
 rw[I]at G;rw[<-z]at F;have J:=t' (cA' w #[.int .i64 4, .int .i64 e, .int .i64 s, .int .i64 q, .string b]);generalize a.welcome=wel at *;clear f D I z;unfold y' at *;go_enter Tryz.func105,Tryz.ntmps105;go_upto_region 1 with fail;refine C' (aZ' w #[.int .i64 4, .int .i64 e, .int .i64 s, .int .i64 q, .string b]) (i' J) ?_;clear J;intro x r;have Y:=m' (i:=1) r.box;simp at Y;have ab:=(r.bel.cell (p:=⟨p,24,none⟩) X).trans H;have M:=fun n=>t' (i' (G (x.drewN n) (r.drewN n).bel));have O:=t' r;clear r H;by_cases Q:e=ep
 ·have Z:wel=false:=F.resolve_left (fun h=>h Q);subst Z;have aa:((e:Int) != (ep:Int))=false:=by simp[Q]
  go_quiet (first|(go_at_call 66;exact Calls.quiet_of_same (i' (M _))))
  go_wp2;go_ret;exact⟨rfl,((i' O).drewN _).bel⟩
 ·have aa:((e:Int) != (ep:Int))=true:=by simp;omega
  go_quiet (first|(go_at_call 66;exact Calls.quiet_of_same (i' (M _))))
  go_wp2;go_ret;exact⟨rfl,((i' O).drewN _).bel⟩
end
def gf' (o:Oper):Tmp:=match o.dst with
 |some d=>d
 |none=>match o.op with
  | .store _ (.tmp t) _=>t
  | _=>0
def fC' (o:Oper) (a:Act) (v:Value):Value:=match o.dst with
 |some _=>v
 |none=>a.tmps.getD (gf' o) undef
def rI' (f:Array Oper):Bool:=(List.range f.size).all fun k=>match f[k]? with
 |none=>true
 |some o=>match o.dst with
  |some _=>true
  |none=>match wr f (gf' o)with
   |none=>true
   |some j=>ar' f k j
theorem qN' {f:Array Oper} (h:rI' f=true) {k j:Nat} {o:Oper} (r:f[k]? =some o) (hd:o.dst=none) (hj:wr f (gf' o)=some j):ar' f k j=true:=by
 unfold rI' at h;have:=List.all_eq_true.1 h k (List.mem_range.2 (Array.getElem?_eq_some_iff.1 r).1);rw[r]at this;simp only[hd,hj]at this;exact this
section
variable {P:Program} {ops:Array Oper} {Q:Exit->Act->World->Prop}
structure qO' (ops:Array Oper) (Φ:Nat->Value->World->Prop) (E:Nat->Nat->Prop) (a0:Act) (w0:World) (L:Array Bool) (a:Act) (w:World):Prop where
 size:L.size=ops.size
 ext:Far (fun b=>∃k,L.getD k false=true/\E k b) w0 w
 closed:∀k,L.getD k false=true->∀j,ar' ops k j=true->L.getD j false=true
 vals:∀i o,ops[i]? =some o->L.getD i false=true->Φ i (a.tmps.getD (gf' o) undef) w
 rest:∀t,(∀j,wr ops t=some j->L.getD j false=false)->a.tmps.getD t undef=a0.tmps.getD t undef
 defers:a.defers=a0.defers
 tsize:a.tmps.size=a0.tmps.size
theorem tK' {a0:Act} {w0:World} (z:Nat->Value->World->Prop) (E:Nat->Nat->Prop) (ad:Nat) (Z:World->World->Prop) (aG:∀w,Z w w) (ah:bq' ops a0.tmps.size=true) (aH:rI' ops=true)
  (aI:∀i j v w w',i≠j->ar' ops j i=false->z j v w->Far (E i) w w'->(i=ad->Z w w')->z j v w')
  (aJ:∀i o,ops[i]? =some o->∀a w,Far (fun b=>∃k,k≠i/\ar' ops k i=false/\E k b) w0 w->bo' ops z a0 i o a w->
   if Region.wanted o (yielded ops a.tmps)=true then o.wp P a w (fun a' w'=>∃v,a'=a.put o.dst v/\Far (E i) w w'/\z i (fC' o a v) w'/\(i=ad->Z w w')) Q else z i (fC' o a undef) w)
  (aK:∀a w,Far (fun b=>∃k,E k b) w0 w->(∀i o,ops[i]? =some o->z i (a.tmps.getD (gf' o) undef) w)->(∀t,wr ops t=none->a.tmps.getD t undef=a0.tmps.getD t undef)->a.defers=a0.defers->a.tmps.size=a0.tmps.size->Q .normal a w):
  ∀ (M:Nat) (L:Array Bool) (a:Act) (w:World),qO' ops z E a0 w0 L a w->(List.range ops.size).countP (fun i=> !L.getD i false)<=M->wpAny P .any ops Q M L a w:=by
 have aA:∀ (L:Array Bool) (a:Act) (w:World),qO' ops z E a0 w0 L a w->Region.ready .any ops L=[]->Q .normal a w:=by
  intro L a w f aa;have aL:∀n i,i < n->i < ops.size->L.getD i false=true:=by
   intro n;induction n with
   |zero=>intro i h;omega
   |succ n ih=>
    intro i h hi;by_cases aM:i < n
    ·exact ih i aM hi
    ·have e:i=n:=by omega
     subst e;cases aB:L.getD i false
     ·exfalso;have u:ops[i]? =some ops[i]:=Array.getElem?_eq_getElem hi;obtain⟨_,_,h3⟩:=ah' ah u;have:i∈Region.ready .any ops L:=mem_ready.2 ⟨by
       have hs:i < L.size:=by rw[f.size];exact hi
       rw[Array.getD_eq_getD_getElem?,Array.getElem?_eq_getElem hs]at aB ⊢;exact aB,ops[i],u,fun e ai D=>by
       have hd:ar' ops i e.on=true:=by unfold ar';rw[u];exact Array.any_eq_true'.2 ⟨e,ai,by simp[D]⟩
       have I:=h3 _ hd;exact ih e.on I (by omega)⟩
      rw[aa]at this;cases this
     ·rfl
  refine aK a w (f.ext.mono (fun b _ h=>h.imp fun k h=>h.2)) (fun i o u=>f.vals i o u (aL ops.size i (Array.getElem?_eq_some_iff.1 u).1 (Array.getElem?_eq_some_iff.1 u).1)) (fun t O=>f.rest t (fun j hj=>by rw[O]at hj;cases hj)) f.defers f.tsize
 intro M;induction M with
 |zero=>
  intro L a w f aN;have aa:Region.ready .any ops L=[]:=by
   apply List.eq_nil_iff_forall_not_mem.2;intro i hi;obtain⟨h0,o,u,_⟩:=mem_ready.1 hi;have I:i < ops.size:=(Array.getElem?_eq_some_iff.1 u).1;have F:L.getD i false=false:=by
    have hs:i < L.size:=by rw[f.size];exact I
    rw[Array.getD_eq_getD_getElem?,Array.getElem?_eq_getElem hs]at h0 ⊢;exact h0
   have:0 < (List.range ops.size).countP (fun i=> !L.getD i false):=List.countP_pos_iff.2 ⟨i,List.mem_range.2 I,by simp[F]⟩;omega
  exact⟨aa,aA L a w f aa⟩
 |succ M ih=>
  intro L a w f aN;refine⟨aA L a w f,fun i hi=>?_⟩;obtain⟨h0,o,u,aO⟩:=mem_ready.1 hi;have I:i < ops.size:=(Array.getElem?_eq_some_iff.1 u).1;have aj:i < L.size:=by rw[f.size];exact I
  have F:L.getD i false=false:=by rw[Array.getD_eq_getD_getElem?,Array.getElem?_eq_getElem aj]at h0 ⊢;exact h0
  obtain⟨hd,hl,aT⟩:=ah' ah u;have aC:∀j,ar' ops i j=true->L.getD j false=true:=by intro j hj;unfold ar' at hj;rw[u]at hj;obtain⟨e,ai,D⟩:=Array.any_eq_true'.1 hj;simp only[Bool.and_eq_true,beq_iff_eq]at D;rw[<-D.2];exact aO e ai D.1
  have aP:bo' ops z a0 i o a w:=by
   intro t O;cases H:wr ops t with
   |none=>exact f.rest t (fun j hj=>by rw[H]at hj;cases hj)
   |some j=>
    simp only[];have hj:=List.find?_some H;simp only[beq_iff_eq]at hj;split
    ·rename_i ak;cases ao:ops[j]? with
     |none=>rw[ao]at hj;cases hj
     |some ap=>
      rw[ao]at hj;have aD:=f.vals j ap ao (aC j ak);have ab:ap.dst=some t:=hj;have aQ:gf' ap=t:=by unfold gf';rw[ab]
      rw[aQ]at aD;exact aD
    ·rename_i ak;refine f.rest t (fun aU ab=>?_);rw[H]at ab;cases ab;rcases hl t O j H with h|h
     ·exact absurd h ak
     ·cases aq:L.getD j false
      ·rfl
      ·have:=f.closed j aq i h;rw[F]at this;cases this
  have aE:∀v w',Far (E i) w w'->(i=ad->Z w w')->z i (fC' o a v) w'->qO' ops z E a0 w0 (L.setIfInBounds i true) (a.put o.dst v) w':=by
   intro v w' D au J;have U:∀k,(L.setIfInBounds i true).getD k false=true↔ (k=i\/L.getD k false=true):=by
    intro k;by_cases r:k=i
    ·subst r;simp[Array.getD_eq_getD_getElem?,aj]
    ·rw[getD_set_ne false (fun e=>r e.symm)];simp[r]
   have ac:∀t,(a.put o.dst v).tmps.getD t undef=if o.dst=some t then v else a.tmps.getD t undef:=by
    intro t;cases G:o.dst with
    |none=>simp[Act.put]
    |some d=>
     simp only[Act.put,Option.some.injEq];have aR:d < a.tmps.size:=by rw[f.tsize];exact(hd d G).1
     by_cases h:d=t
     ·subst h;simp[Array.getD_eq_getD_getElem?,aR]
     ·simp[Array.getD_eq_getD_getElem?,h]
   refine⟨by simp[f.size],(f.ext.mono (fun b _ h=>by obtain⟨k,h1,h2⟩:=h;exact⟨k,(U k).2 (.inr h1),h2⟩)).trans D (fun b _ h=>⟨i,(U i).2 (.inl rfl),h⟩),?_,?_,?_,?_,?_⟩
   ·intro k r j hj;rw[U]at r ⊢;rcases r with rfl|r
    ·exact .inr (aC j hj)
    ·exact .inr (f.closed k r j hj)
   ·intro k ok V r;rw[U]at r;rcases r with rfl|r
    ·rw[u]at V;cases V;unfold fC' at J;cases G:o.dst with
     |none=>rw[G]at J;have X:=ac (gf' o);rw[if_neg (by rw[G];simp),G]at X;rw[X];exact J
     |some d=>
      rw[G]at J;have hs:gf' o=d:=by unfold gf';rw[G]
      have X:=ac d;rw[if_pos G,G]at X;rw[hs,X];exact J
    ·have Y:i≠k:=by intro e;subst e;rw[F]at r;cases r
     have av:ar' ops k i=false:=by
      cases hd:ar' ops k i with
      |false=>rfl
      |true=>have:=f.closed k r i hd;rw[F]at this;cases this
     have aS:=aI i k _ _ _ Y av (f.vals k ok V r) D au;have ax:o.dst≠some (gf' ok):=by
      intro e;have h1:=(hd _ e).2;cases ay:ok.dst with
      |some d=>
       have hs:gf' ok=d:=by unfold gf';rw[ay]
       have h2:=((ah' ah V).1 d ay).2;rw[hs,h2]at h1;cases h1;exact Y rfl
      |none=>have:=qN' aH V ay h1;rw[this]at av;cases av
     rw[ac,if_neg ax];exact aS
   ·intro t O;rw[ac];have ax:o.dst≠some t:=by intro e;have:=O i (hd t e).2;have h2:=(U i).2 (.inl rfl);rw[this]at h2;cases h2
    rw[if_neg ax];refine f.rest t (fun j hj=>?_);cases aq:L.getD j false
    ·rfl
    ·have:=O j hj;rw[(U j).2 (.inr aq)]at this;cases this
   ·cases o.dst <;> exact f.defers
   ·rw[<-f.tsize];cases o.dst <;> simp[Act.put]
  have aF:(List.range ops.size).countP (fun k=> !(L.setIfInBounds i true).getD k false)<=M:=by
   have:=cd' (l:=List.range ops.size) (p:=fun k=> !L.getD k false) (q:=fun k=> !(L.setIfInBounds i true).getD k false)
    (fun k _ r=>by
     by_cases Y:k=i
     ·subst Y;simp[F]
     ·rw[getD_set_ne false (fun e=>Y e.symm)]at r;exact r)
    ⟨i,List.mem_range.2 I,by simp[F],by simp[Array.getD_eq_getD_getElem?,aj]⟩
   omega
  have az:=aJ i o u a w (f.ext.mono (fun b _ h=>by
   obtain⟨k,h1,h2⟩:=h;refine⟨k,fun e=>?_,?_,h2⟩
   ·subst e;rw[F]at h1;cases h1
   ·cases hd:ar' ops k i with
    |false=>rfl
    |true=>have:=f.closed k h1 i hd;rw[F]at this;cases this)) aP
  unfold wpOp;rw[u];simp only[];split at az
  ·rename_i H;rw[if_pos H];refine .inl (Oper.wp_mono ?_ az);rintro a' w' ⟨v,rfl,D,J,au⟩;exact ih _ _ _ (aE v w' D au J) aF
  ·rename_i H;rw[if_neg H];exact ih _ _ _ (aE undef w (Far.refl _ _) (fun _=>aG w) az) aF
def no' (E:Nat->Prop) (r:World->World->Prop) (f:Value->World->Prop):Prop:=∀v w w',f v w->Far E w w'->r w w'->f v w'
theorem dF' {E:Nat->Prop} {r:World->World->Prop} {f:Value->World->Prop} (h:aU' E f):no' E r f:=fun v w w' h1 h2 _=>h v w w' h1 h2
def eP' (ops:Array Oper) (i:Nat) (E:Nat->Prop) (f:World->World->Prop):Nat->List (Value->World->Prop)->Prop
 | _,[]=>True
 |j,r::u=>(i=j\/ar' ops j i=true\/no' E f r)/\eP' ops i E f (j+1) u
def gF' (ops:Array Oper) (L:List (Value->World->Prop)) (f:Nat) (r:World->World->Prop):List (Nat× (Nat->Prop))->Prop
 |[]=>True
 |p::u=>eP' ops p.1 p.2 (fun w w'=>p.1=f->r w w') 0 L/\gF' ops L f r u
theorem fD' {ops:Array Oper} {i:Nat} {E:Nat->Prop} {f:World->World->Prop}:∀ {L:List (Value->World->Prop)} {s:Nat},eP' ops i E f s L->∀j,i≠s+j->ar' ops (s+j) i=false->no' E f (L.getD j (fun _ _=>True))
 |[],_,_,_,_,_=>fun _ _ _ _ _ _=>by simp
 |z::r,s,h,0,u,hd=>by
  rcases h.1 with h|h|h
  ·exact absurd h u
  ·rw[Nat.add_zero]at hd;rw[hd]at h;cases h
  ·exact h
 |z::r,s,h,j+1,u,hd=>by have:=fD' (L:=r) (s:=s+1) h.2 j (by omega) (by rw[show s+1+j=s+(j+1) by omega];exact hd);simpa using this
theorem fE' {ops:Array Oper} {L:List (Value->World->Prop)} {r:Nat} {u:World->World->Prop}:∀ {z:List (Nat× (Nat->Prop))},gF' ops L r u z->∀p∈z,eP' ops p.1 p.2 (fun w w'=>p.1=r->u w w') 0 L
 |[],_,_,f=>by cases f
 |q::D,h,p,f=>by
  cases f with
  |head=>exact h.1
  |tail _ f=>exact fE' h.2 p f
def qP' (P:Program) (ops:Array Oper) (Q:Exit->Act->World->Prop) (L:List (Value->World->Prop)) (f:List (Nat× (Nat->Prop))) (r:Nat) (u:World->World->Prop) (a0:Act) (w0:World):Nat->List Oper->List (List (Tmp×Option Nat))->List (Value->World->Prop)->Prop
 |i,o::os,D::F,z::G=>(∀a w,Far (dk' f ops i) w0 w->I' L a0 a w D->
   if Region.wanted o (yielded ops a.tmps)=true then o.wp P a w (fun a' w'=>∃v,a'=a.put o.dst v/\Far (ej' f i) w w'/\z (fC' o a v) w'/\(i=r->u w w')) Q else z (fC' o a undef) w)/\qP' P ops Q L f r u a0 w0 (i+1) os F G
 | _,[],_,_=>True
 | _,_,_,_=>False
theorem kB' {L:List (Value->World->Prop)} {F:List (Nat× (Nat->Prop))} {G:Nat} {H:World->World->Prop} {a0:Act} {w0:World}:∀ {s:Nat} {os:List Oper} {u:List (List (Tmp×Option Nat))} {z:List (Value->World->Prop)},qP' P ops Q L F G H a0 w0 s os u z->
  ∀ (i:Nat) o f,os[i]? =some o->u[i]? =some f->∀a w,Far (dk' F ops (s+i)) w0 w->I' L a0 a w f->
   if Region.wanted o (yielded ops a.tmps)=true then o.wp P a w (fun a' w'=>∃v,a'=a.put o.dst v/\Far (ej' F (s+i)) w w'/\z.getD i (fun _ _=>True) (fC' o a v) w'/\(s+i=G->H w w')) Q else z.getD i (fun _ _=>True) (fC' o a undef) w
 | _,[],_,_,_,i,o,f,r,_=>by simp at r
 | _,o::os,[],_,h,_,_,_,_,_=>h.elim
 | _,o::os,f::u,[],h,_,_,_,_,_=>h.elim
 | _,o::os,f::u,J::z,h,0,I,pl',r,D=>by simp at r D;subst r;subst D;exact h.1
 |s,o::os,f::u,J::z,h,i+1,I,pl',r,D=>by have:=kB' h.2 i I pl' (by simpa using r) (by simpa using D);rw[show s+1+i=s+(i+1) by omega]at this;simpa using this
def fF' (f:Nat->Value) (w:World):List Tmp->List (Value->World->Prop)->Prop
 |d::ds,r::u=>r (f d) w/\fF' f w ds u
 | _,_=>True
def vO' (ops:Array Oper):List Tmp:=ops.toList.map gf'
theorem jk' {f:Nat->Value} {w:World}:∀ {os:List Oper} {L:List (Value->World->Prop)},(∀i o,os[i]? =some o->L.getD i (fun _ _=>True) (f (gf' o)) w)->fF' f w (os.map gf') L
 |[],_,_=>by simp[fF']
 |o::os,[],_=>by simp[fF']
 |o::os,D::r,h=>by have ih:=jk' (os:=os) (L:=r) (fun i u z=>by have:=h (i+1) u (by simpa using z);simpa using this);exact⟨h 0 o rfl,ih⟩
theorem lP' {id:Nat} {a0:Act} {w0:World} (X:P.follows .mixedOrders=true) (L:List (Value->World->Prop)) (H:List (List (Tmp×Option Nat))) (O:List Tmp) (I:List Bool) (u:List (Nat× (Nat->Prop))) (J:Nat) (F:World->World->Prop) (Y:∀w,F w w)
  (Z:mm' u=true) (aa:bq' ops a0.tmps.size=true) (ab:rI' ops=true) (ac:bR' ops=H) (ad:vO' ops=O) (U:be' ops a0.tmps.size=I) (ah:bs' L) (ai:gF' ops L J F u) (aj:qP' P ops Q L u J F a0 w0 0 ops.toList H L)
  (ak:∀V w,Far (fun b=>∃p∈u,p.2 b) w0 w->fF' V w O L->Q .normal {tmps:=(R' I a0.tmps.toList 0 V).toArray,defers:=a0.defers} w):
  (Code.region id ops true).wp P Q a0 w0:=by
 refine wp_region_any X (tK' (w0:=w0) (fun i=>L.getD i (fun _ _=>True)) (ej' u) J F Y aa ab ?_ ?_ ?_ ops.size _ a0 _ ⟨by simp,A' ((Below.refl _ _).drew),?_,?_,fun _ _=>rfl,rfl,rfl⟩ ?_)
 ·intro i j v w w' az hd G hF ao;by_cases hi:∃p∈u,p.1=i
  ·obtain⟨p,z,rfl⟩:=hi;have hs:=fD' (fE' ai p z) j (by omega) (by rw[Nat.zero_add];exact hd);exact hs v w w' G (hF.mono (fun b _ h=>by obtain⟨q,M,e,f⟩:=h;rw[it' Z z M e.symm];exact f)) ao
  ·exact bi' ah j v w w' G (hF.below (Nat.le_refl _) (fun k _ h=>by obtain⟨q,M,e,_⟩:=h;exact hi ⟨q,M,e⟩))
 ·intro i o D a w f ap;have aq:i < ops.size:=(Array.getElem?_eq_some_iff.1 D).1;have au:H[i]? =some ((o.looksAt ops).map fun t=>(t,match wr ops t with
     |some j=>if ar' ops i j=true then some j else none
     |none=>none)):=by
   rw[<-ac];unfold bR';rw[List.getElem?_map,List.getElem?_range aq,Option.map_some,D];try rfl
  have:=kB' aj i o _ (by simpa using D) au a w (by rw[Nat.zero_add];exact f.mono (fun b _ h=>by obtain⟨k,h1,h2,p,z,rfl,h3⟩:=h;exact⟨p,z,h1,h2,h3⟩)) (bd' rfl (o:=o) _ ap);rw[Nat.zero_add]at this;exact this
 ·intro a w f G av hd hs;have h:=ak (fun t=>a.tmps.getD t undef) w (f.mono (fun b _ h=>by obtain⟨k,p,z,_,h3⟩:=h;exact⟨p,z,h3⟩)) (by rw[<-ad];exact jk' (fun i o D=>G i o (by simpa using D)));have e:R' I a0.tmps.toList 0 (fun t=>a.tmps.getD t undef)=a.tmps.toList:=by
   refine ce' _ _ _ _ _ (by rw[<-U];simp[be']) (by simpa using hs) ?_ ?_
   ·intro j hj _;simp[Array.getD_eq_getD_getElem?,List.getD_eq_getElem?_getD]
   ·intro j hj f;rw[<-U]at f;have ax:j < a0.tmps.size:=by rw[<-hs];simpa using hj
    have ay:wr ops j=none:=by unfold be' at f;simp[List.getD_eq_getElem?_getD,List.getElem?_map,List.getElem?_range ax]at f;exact f
    have:=av j ay;simpa[Array.getD_eq_getD_getElem?,List.getD_eq_getElem?_getD]using this
  rw[e,<-hd]at h;exact h
 ·intro k r;simp[Array.getD_eq_getD_getElem?]at r;rcases h:(Array.replicate ops.size false)[k]? with _|b <;> simp[h]at r;subst r;have:=Array.getElem?_eq_some_iff.1 h;obtain⟨h1,h2⟩:=this;simp at h2
 ·intro i o D r;exfalso;simp[Array.getD_eq_getD_getElem?]at r;rcases h:(Array.replicate ops.size false)[i]? with _|b <;> simp[h]at r;subst r;have:=Array.getElem?_eq_some_iff.1 h;obtain⟨h1,h2⟩:=this;simp at h2
 ·exact Nat.le_trans List.countP_le_length (by simp)
end
theorem cj' {w:World} {p e:Nat} {logs:Nat->List ByteArray} {sh:Nat->List (Nat×Value)} {st:Mod.Stv} {c:Sv} (f:aL' w p e logs sh st c) {q:Nat} {u:Array Value} {t:TypeId} {fr:Nat×Nat} (r:w.heap[q]? =some (.cells u t fr))
  (h1:t≠176) (h2:t≠9) (h3:t≠3) (h4:t≠203) (h5:t≠252) (z:t≠5) (D:t≠261) (F:t≠179):¬PkU p c q:=by
 rintro(h|(h|h)|h)
 ·exact ch' f.ks r h1 h2 h3 h
 ·subst h;have:=f.stt.blk;rw[r]at this;injection this with this;injection this with _ this _;exact h4 this
 ·exact dY' f.stt.dk r (fun e=>h5 e.symm) (fun e=>z e.symm) (fun e=>D e.symm) h
 ·exact f.rl.ne r (fun e=>F e.symm) h
theorem cP' (a:Mod.Sk) (s:Nat):(grown a s []).logs=a.logs:=by
 funext t;show(if t=s then a.logs s++[]else a.logs t)= _;split
 ·rename_i h;subst h;simp
 ·rfl
theorem kC' (a:Mod.Sk) (s:Nat) (out:List ByteArray) (c:ByteArray):(fun j=>if j=s then(grown a s out).logs s++[c]else(grown a s out).logs j)=(grown a s (out++[c])).logs:=by
 funext t;show(if t=s then(if s=s then a.logs s++out else a.logs s)++[c]else(if t=s then a.logs s++out else a.logs t))=if t=s then a.logs s++(out++[c])else a.logs t
 split
 ·simp
 ·rfl
theorem iE' (a:Mod.Sk) (s:Nat) (hs:s < 3) (out:List ByteArray):((grown a s out).logs 0).length+((grown a s out).logs 1).length+((grown a s out).logs 2).length=a.count+out.length:=fw' a s hs out
theorem kD' (a:Mod.Sk) (s:Nat) (out:List ByteArray):(grown a s out).logs s=a.logs s++out:=by
 show(if s=s then _ else _)= _;rw[if_pos rfl]
def np' (f r:World):Prop:=∀ (g:Nat) (x:ByteArray),f.heap[g]? =some (.cells #[.string x] 235 (0,0))->∃u:ByteArray,r.heap[g]? =some (.cells #[.string u] 235 (0,0))
theorem nq' (w:World):np' w w:=fun _ x h=>⟨x,h⟩
theorem oP' (w:World) (g:Nat) (b:ByteArray):np' w (w.setCell ⟨g,0,none⟩ (.string b)):=by
 intro k x h;by_cases e:k=g
 ·subst e;have:=af' (j:=0) (v:= .string b) h;exact⟨b,by simpa using this⟩
 ·exact⟨x,(O' w g 0 (.string b)).blk h e⟩
def oQ':Option Value->Nat
 |some (.slice _ n _)=>n
 | _=>0
theorem gl' (e:Nat) (w:World):Calls Tryz.prog 107 #[.int .i64 e] w fun f w'=>f= .returned (.agg #[.int .i64 e, .int .i64 0, .int .i64 0])/\Below w.heap.size w w':=by
 go_enter Tryz.func107,Tryz.ntmps107;go_wp2;refine bodyPost_ret (v:= .agg #[.int .i64 e, .int .i64 0, .int .i64 0]) (by simp[results,Tryz.results107,go_sem]) rfl ⟨rfl,?_⟩;exact(Below.refl _ _).alloc (Nat.le_refl _) _
theorem jl' (e:Nat) (w:World):Calls Tryz.prog 159 #[.int .i64 e] w fun f w'=>f= .returned (.agg #[.int .i64 5, .int .i64 e, .int .i64 0, .int .i64 0, .string ⟨#[]⟩])/\Below w.heap.size w w':=by
 go_enter Tryz.func159,Tryz.ntmps159;go_wp2;refine bodyPost_ret (v:= .agg #[.int .i64 5, .int .i64 e, .int .i64 0, .int .i64 0, .string ⟨#[]⟩]) (by simp[results,Tryz.results159,go_sem]) rfl ⟨rfl,?_⟩;first|exact(Below.refl _ _).alloc (Nat.le_refl _) _|exact dv' ((Below.refl _ _).alloc (Nat.le_refl _) _) _ _ _ _ _
theorem sC' {w:World} {p e:Nat} {logs:Nat->List ByteArray} {sh:Nat->List (Nat×Value)} {st:Mod.Stv} {c:Sv} (f:aL' w p e logs sh st c) (r:Nat) (F:r<=2147483647):
  bg' w (w.setCell ⟨p,1,none⟩ (.int .i64 r)) p r logs sh st c:=by
 have G:∀j,j < 3->(c.lv j).ownBlock≠some p:=fun j hj=>(f.ks.lgs j hj).ne f.ks.blk (by decide);have H:∀j,j < 3->¬ShU (c.nv j) (c.mv j) p:=fun j hj=>(f.ks.shs j hj).ne f.ks.blk (by decide);have hs:=O' w p 1 (.int .i64 r);have u:∀j,j≠1->(c.arr.setIfInBounds 1 (.int .i64 r))[j]? =c.arr[j]? :=fun j hj=>Array.getElem?_setIfInBounds_ne (fun e=>hj e.symm);have h1:1 < c.arr.size:=by rw[f.ks.sz];omega
 refine⟨{c with arr:=c.arr.setIfInBounds 1 (.int .i64 r)},⟨⟨af' f.ks.blk,by simpa using f.ks.sz,?_,?_,?_,?_,?_,?_,?_,?_,f.ks.are,f.ks.apl,f.ks.aps,f.ks.cnt,F⟩,f.stt.far hs (fun k z h=>f.sep k (.inl h) z),f.rl.far hs (fun g D h=>(f.sepr g D).1 (.inl h)),f.len⟩,hs.mono (fun k _ h=> .inl (.inl h)),fun k z=> .inl z,rfl,rfl⟩
 ·rw[u _ (by omega)];exact f.ks.a0
 ·simp[h1]
 ·intro j hj;rw[u _ (by omega)];exact f.ks.al j hj
 ·intro j hj;rw[u _ (by omega)];exact f.ks.an j hj
 ·intro j hj;rw[u _ (by omega)];exact f.ks.am j hj
 ·rw[u _ (by omega)];exact f.ks.ar
 ·intro j hj;exact(f.ks.lgs j hj).far hs (fun g D h=>G j hj (by rw[D,h]))
 ·intro j hj;exact(f.ks.shs j hj).far hs (fun k z h=>H j hj (by rw[<-h];exact z))
theorem nr' (a:Mod.Sk):aX' a a.epoch=a:=by
 unfold aX' dr';rw[if_neg (by omega)]
theorem nt' {sh:Nat->List (Nat×Value)}:da' [] (fun t=>if t < 3 then []else sh t):=by
 intro t f n c;show an' (if t < 3 then []else sh t) _= _↔ _;rw[if_pos f];simp[an']
theorem gG':(Tryz.prog.info? 41).map (·.size)=some 5:=by kernel_rfl
def zFr:Array Value:= #[.int .i64 0, .int .i64 0, .int .i64 0, .int .i64 0, .string ⟨#[]⟩]
structure eq' (w:World) (cs rs:Array Value) (x:World):Prop where
 box:x.heap[w.heap.size]? =some (.cells cs 41 (0,0))
 res:x.heap[w.heap.size+1]? =some (.cells rs 41 (0,0))
 bel:Below w.heap.size w x
theorem ez' (w:World) (f rs:Array Value):eq' w f rs ((w.alloc (.cells f 41)).alloc (.cells rs 41)):=
 ⟨(bS' _ _ _).1,(bS' _ _ _).2.1,(bS' _ _ _).2.2⟩
theorem eq'.lt {w x:World} {f rs:Array Value} (h:eq' w f rs x):w.heap.size+1 < x.heap.size:=lt_of_block h.res
theorem eq'.below {w x y:World} {r rs:Array Value} (h:eq' w r rs x) (f:Below x.heap.size x y):eq' w r rs y:=
 ⟨(f.block _ (by have:=h.lt;omega)).trans h.box,(f.block _ h.lt).trans h.res,h.bel.trans (f.mono h.bel.size)⟩
theorem eq'.drewN {w x:World} {f rs:Array Value} (h:eq' w f rs x) (n:Nat):eq' w f rs (x.drewN n):=h.below (below_drewN (Below.refl _ _) n)
theorem iF' {w:World} {p:Nat} {a:Mod.Sk} {sh:Nat->List (Nat×Value)} {st:Mod.Stv} {c:Sv} (H:aL' w p a.epoch a.logs sh st c) (e:Nat) (s q:Int) (b:ByteArray) (ac:e≠a.epoch):
  Calls Tryz.prog 110 #[y' p, .agg #[.int .i64 3, .int .i64 e, .int .i64 s, .int .i64 q, .string b]] w fun Q f=>
   Q= .returned (.tuple #[.agg #[.int .i64 5, .int .i64 (max e a.epoch:Nat), .int .i64 0, .int .i64 0, .string ⟨#[]⟩], .int .i64 0])/\Below w.heap.size w f:=by
 have c1:w.cell? ⟨p,1,none⟩=some (.int .i64 a.epoch):=by rw[m' H.ks.blk,H.ks.a1]
 have U:=lt_of_block H.ks.blk;obtain⟨ep,V⟩:∃ep,ep=a.epoch:=⟨_,rfl⟩;rw[<-V]at c1 ac ⊢;have av:((e:Int) != (ep:Int))=true:=by simp;omega
 obtain⟨m,X⟩:∃m,m=max e ep:=⟨_,rfl⟩;have ax:max (e:Int) (ep:Int)=(m:Int):=by omega
 rw[<-X];have ad:=fun y=>t' (jl' m y);have Y:=t' (ez' w #[.int .i64 3, .int .i64 e, .int .i64 s, .int .i64 q, .string b] zFr);clear H V X;unfold y';go_enter Tryz.func110,Tryz.ntmps110;go_upto_region 1 with fail;refine C' (eq' w #[.int .i64 3, .int .i64 e, .int .i64 s, .int .i64 q, .string b] zFr) (i' Y) ?_;clear Y;intro x u;have M:=m' (i:=1) u.box;simp at M;have Z:=(u.bel.cell (p:=⟨p,1,none⟩) U).trans c1;have D:=t' u;clear u;go_quiet (fail);go_upto_region 2 with fail;refine C' (eq' w #[.int .i64 3, .int .i64 e, .int .i64 s, .int .i64 q, .string b] zFr) ((i' D).drewN _) ?_;clear D M Z;intro ay u;have D:=t' u;have az:=u.lt;clear u;refine Q' (by kernel_rfl)
  [fun v _=>v= .pointer (some ⟨w.heap.size,1,none⟩),fun v _=>v= .int .i64 e,fun v _=>v= .pointer (some ⟨p,0,none⟩),fun v _=>v= .pointer (some ⟨p,0,none⟩),fun v _=>v= .pointer (some ⟨p,1,none⟩),fun v _=>v= .int .i64 ep,fun v _=>v= .int .i64 m,
   fun v _=>v= .agg #[.int .i64 5, .int .i64 m, .int .i64 0, .int .i64 0, .string ⟨#[]⟩],fun _ f=>f.heap[w.heap.size+1]? =some (.cells #[.int .i64 5, .int .i64 m, .int .i64 0, .int .i64 0, .string ⟨#[]⟩] 41 (0,0)),fun v _=>v= .int .i64 0]
  [[(3,none)],[(15,some 0)],[(0,none)],[(17,some 2)],[(18,some 3)],[(19,some 4)],[(16,some 1),(20,some 5)],[(21,some 6)],[(4,none),(22,some 7)],[]] [some 15,some 16,some 17,some 18,some 19,some 20,some 21,some 22,none,some 5] [false,false,false,false,false,true,false,false,false,false,false,false,false,false,false,true,true,true,true,true,true,true,true,false,false,false,false,false,false,false,false,false,false,false,false,false,false,false,false,false,false,false,false,false,false,false,false,false,false,false,false,false]
  [(8,fun k=>k=w.heap.size+1)]
  (by kernel_rfl) (by kernel_rfl) (by kernel_rfl) (by kernel_rfl) (by kernel_rfl) ?_ ?_ ?_ ?_
 ·repeat' (first|exact J' _|exact ba' _ _|exact trivial|apply And.intro)
 ·repeat' (first|exact trivial|exact .inl rfl|exact .inr (.inr (ak' _ _))|apply And.intro)
 ·refine⟨?_,?_,?_,?_,?_,?_,?_,?_,?_,?_,trivial⟩;all_goals
   intro a' f F I;have aa:=F.blk (i' D).box (aa' (by intro q r;simp at r;subst r;intro (h:w.heap.size=w.heap.size+1);omega));have M:f.cell? ⟨w.heap.size,1,none⟩=some (.int .i64 e):=m' (i:=1) aa;have Z:f.cell? ⟨p,1,none⟩=some (.int .i64 ep):=by have ah:=F.rest p (by omega) (aa' (by intro q r;simp at r;subst r;intro (h:p=w.heap.size+1);omega));have:=((i' D).bel.cell (p:=⟨p,1,none⟩) U).trans c1;unfold World.cell? at this ⊢;simp only at this ⊢;rw[ah];exact this
   clear aa;simp only[I',List.getD_cons_zero,List.getD_cons_succ,Array.getD_eq_getD_getElem?]at I;try simp at I
  iterate 7
   ·clear F;go_simp;exact⟨_,rfl,Far.refl _ _,rfl⟩
  ·clear F;go_simp;refine(i' (ad f)).mono ?_;rintro Q aA ⟨rfl,ai⟩;exact⟨_,rfl,A' ai,rfl⟩
  ·have J:=F.blk (i' D).res (by rintro⟨q,r,g1,g2,aB⟩;simp at r;subst r;exact g1 rfl);clear F;rw[if_pos (by rfl)];refine wp_store_row 41 (.tmp 4) (.tmp 22) rfl (w.heap.size+1) #[.int .i64 5, .int .i64 m, .int .i64 0, .int .i64 0, .string ⟨#[]⟩] (by simp[Act.eval,I]) (by simp[Act.eval,I]) 41 _ J (by rw[gG'];rfl) rfl (by rw[Array.all_eq_true_iff_forall_mem];intro aC hu;simp at hu;rcases hu with rfl|rfl|rfl|rfl <;> rfl) ?_;exact⟨_,rfl,ac' (.head _) (aR' _ _ _),setRow_heap _ _ _ _ _ _ J⟩
  ·clear F;go_simp;exact⟨_,rfl,Far.refl _ _,rfl⟩
 ·intro z f hF O;have G:=O.2.2.2.2.2.2.2.2.1;have aj:=O.2.2.2.2.2.2.2.2.2.1;have J:f.cell? ⟨w.heap.size+1,0,none⟩=some (.int .i64 5):=m' (i:=0) G;have ak:f.cell? ⟨w.heap.size+1,1,none⟩=some (.int .i64 m):=m' (i:=1) G;have ao:f.cell? ⟨w.heap.size+1,2,none⟩=some (.int .i64 0):=m' (i:=2) G;have ap:f.cell? ⟨w.heap.size+1,3,none⟩=some (.int .i64 0):=m' (i:=3) G;have aq:f.cell? ⟨w.heap.size+1,4,none⟩=some (.string ⟨#[]⟩):=m' (i:=4) G;have ab:Below w.heap.size w f:=(i' D).bel.trans (hF.below (B:=w.heap.size) (by omega) (fun k aD h=>by obtain⟨q,r,h⟩:=h;simp at r;subst r;have h:k=w.heap.size+1:=h;omega));have au:=t' ab;clear O hF G ab;simp only[R',aj];generalize z 15=aE;generalize z 16=aF;generalize z 17=aG;generalize z 18=aH;generalize z 19=aI;generalize z 20=aJ;generalize z 21=aK;generalize z 22=aL;go_simp;go_wp2;exact bodyPost_ret (v:= .tuple #[.agg #[.int .i64 5, .int .i64 m, .int .i64 0, .int .i64 0, .string ⟨#[]⟩], .int .i64 0]) (by simp[results,Tryz.results110,go_sem,J,ak,ao,ap,aq]) rfl ⟨rfl,i' au⟩
theorem sD' (a b c:Int):(⟨(Wire.le4 a++Wire.le4 b++Wire.le4 c).toArray⟩:ByteArray)=dR' a++dR' b++dR' c:=by
 rw[<-ou']
theorem jC' {w:World} {p:Nat} {a:Mod.Sk} {sh:Nat->List (Nat×Value)} {st:Mod.Stv} {c:Sv} (r:aL' w p a.epoch a.logs sh st c) (e:Nat) (s q:Int) (b:ByteArray) (F:e < a.epoch):
  Calls Tryz.prog 109 #[y' p, .agg #[.int .i64 1, .int .i64 e, .int .i64 s, .int .i64 q, .string b]] w fun G O=>
   G= .returned (.tuple #[.agg #[.int .i64 5, .int .i64 a.epoch, .int .i64 0, .int .i64 0, .string ⟨#[]⟩], .int .i64 0])/\Below w.heap.size w O:=by
 have c1:w.cell? ⟨p,1,none⟩=some (.int .i64 a.epoch):=by rw[m' r.ks.blk,r.ks.a1]
 have D:=lt_of_block r.ks.blk;obtain⟨ep,H⟩:∃ep,ep=a.epoch:=⟨_,rfl⟩;rw[<-H]at c1 F ⊢;have ac:(e:Int) < (ep:Int):=by omega
 have Q:=fun y=>t' (jl' ep y);have I:=t' (ez' w #[.int .i64 1, .int .i64 e, .int .i64 s, .int .i64 q, .string b] zFr);clear r H F;unfold y';go_enter Tryz.func109,Tryz.ntmps109;go_upto_region 1 with fail;refine C' (eq' w #[.int .i64 1, .int .i64 e, .int .i64 s, .int .i64 q, .string b] zFr) (i' I) ?_;clear I;intro x f;have J:=m' (i:=1) f.box;simp at J;have M:=(f.bel.cell (p:=⟨p,1,none⟩) D).trans c1;have u:=t' f;clear f;go_quiet (fail);go_upto_region 2 with fail;refine C' (eq' w #[.int .i64 1, .int .i64 e, .int .i64 s, .int .i64 q, .string b] zFr) ((i' u).drewN _) ?_;clear u J M;intro U f;have M:=(f.bel.cell (p:=⟨p,1,none⟩) D).trans c1;have u:=t' f;have ad:p < U.heap.size:=Nat.lt_of_lt_of_le D f.bel.size;clear f;go_wp2_with (go_at_call 159;refine(i' (Q _)).mono ?_;rintro G y ⟨rfl,z⟩;have f:=(i' u).below z;have V:=m' (i:=0) f.res;have X:=m' (i:=1) f.res;have Y:=m' (i:=2) f.res;have Z:=m' (i:=3) f.res;have aa:=m' (i:=4) f.res;have ah:=D' (i:=0) f.res;have ai:=D' (i:=1) f.res;have aj:=D' (i:=2) f.res;have ak:=D' (i:=3) f.res;have ao:=D' (i:=4) f.res;simp[zFr]at V X Y Z aa;have ab:=t' f;clear f z);refine bodyPost_ret (v:= .tuple #[.agg #[.int .i64 5, .int .i64 ep, .int .i64 0, .int .i64 0, .string ⟨#[]⟩], .int .i64 0]) (by simp[results,Tryz.results109,go_sem, *]) rfl ⟨rfl,?_⟩;have z:=(i' ab).bel;refine((((z.setCell (p:=⟨w.heap.size+1,0,none⟩) (by simp) _).setCell (p:=⟨w.heap.size+1,1,none⟩) (by simp) _).setCell (p:=⟨w.heap.size+1,2,none⟩) (by simp) _).setCell (p:=⟨w.heap.size+1,3,none⟩) (by simp) _).setCell (p:=⟨w.heap.size+1,4,none⟩) (by simp) _
theorem er' {B g:Nat} {f:World} {v:Value} {l:List UInt8} (r:as' B f v l) (u:B<=g) (z:f.heap[g]? =some (.cells #[v] 44 (0,0))):L' B f (.slice (some ⟨g,0,none⟩) 1 1) [v] [⟨l.toArray⟩] (fun _=>False):=by
 refine⟨rfl,⟨by simp, .inr ⟨g,1,_,rfl,u,z,by simp,by unfold maxLen;omega,by simp,by simp⟩⟩,?_,?_,fun _ _ h=>h⟩
 ·intro j D hj;cases j with
  |zero=>simp at hj;subst hj;exact r
  |succ j=>simp at hj
 ·intro i j D G hi hj F;cases i with
  |zero=>
   cases j with
   |zero=>exact absurd rfl F
   |succ j=>simp at hj
  |succ i=>simp at hi
theorem bC' (B:Nat) (f:World):L' B f (.slice none 0 0) [] [] (fun _=>False):=
 ⟨rfl,World.ownsRow_nil _ _ _ _,fun j v hj=>by simp at hj,fun i j r v hi=>by simp at hi,fun _ _ h=>h⟩
theorem hB' (n:Nat) (f:n<=2147483647):Wire.proper 5 n 0 0 ⟨#[]⟩=true:=by
 simp[Wire.proper,Wire.isNum,ByteArray.size];omega
theorem bH' {l:List UInt8} (r:Wire.reads l=true):∃ (k:Int) (e s q:Nat) (b:ByteArray),Wire.kindOf l=k/\Wire.epochOf l=e/\Wire.streamOf l=s/\Wire.seqOf l=q/\Wire.bodyOf l=b/\e<=2147483647/\s < 3/\q<=2147483647/\b.size<=20:=by
 have f:=r;unfold Wire.reads at f;rw[Bool.and_eq_true]at f;obtain⟨_,h2,h3,h4,h5⟩:=di' f.2;exact⟨_,(Wire.epochOf l).toNat,(Wire.streamOf l).toNat,(Wire.seqOf l).toNat,_,rfl,by omega,by omega,by omega,rfl,by omega,by omega,by omega,h5⟩
theorem eQ' {a:Mod.Sk} {l:List UInt8} (f:Wire.reads l=true) {k:Int} {e s q:Nat} {b:ByteArray} (h1:Wire.kindOf l=k) (h2:Wire.epochOf l=e) (h3:Wire.streamOf l=s) (h4:Wire.seqOf l=q) (h5:Wire.bodyOf l=b):
  av' a l=(0,bW' a k e s q b):=by
 unfold av';rw[f,h1,h2,h3,h4,h5];rfl
theorem gc' {a:Mod.Sk} {l:List UInt8} (f:Wire.reads l=false):av' a l=(1,a,[]):=by
 unfold av';rw[f];rfl
theorem nu' {a:Mod.Sk} (f:bh' a) (k:Int) (e s q:Nat) (b:ByteArray) (hs:s < 3) (r:b.size<=20):bh' (bW' a k e s q b).1:=by
 unfold bW';split
 ·split
  ·exact f
  ·exact nl' f _
 ·split
  ·rename_i h3;subst h3;split
   ·rename_i u;rw[u];exact nm' f s q b hs r
   ·exact f
  ·exact f
theorem oR' {a:Mod.Sk} (r:bh' a) (l:List UInt8):bh' (av' a l).2.1:=by
 cases f:Wire.reads l
 ·rw[gc' f];exact r
 ·obtain⟨k,e,s,q,b,h1,h2,h3,h4,h5,g1,g2,z,u⟩:=bH' f;rw[eQ' f h1 h2 h3 h4 h5];exact nu' r k e s q b g2 u
section
variable {w:World} {p:Nat} {g0:Nat->Nat} {free:List Nat} {sh:Nat->List (Nat×Value)} {st:Mod.Stv} {c:Av} {a a2:Mod.Ag} {pl:Nat->List Nat}
end
theorem kE' {a:Mod.Ag} {l:List UInt8} (f:Wire.reads l=true) {k:Int} {e s q:Nat} {b:ByteArray} (h1:Wire.kindOf l=k) (h2:Wire.epochOf l=e) (h3:Wire.streamOf l=s) (h4:Wire.seqOf l=q) (h5:Wire.bodyOf l=b):
  aI' a l=(0,a.deliver k e s q b):=by
 unfold aI';rw[f,h1,h2,h3,h4,h5];rfl
theorem iG' {a:Mod.Ag} {l:List UInt8} (f:Wire.reads l=false):aI' a l=(1,a):=by
 unfold aI';rw[f];rfl
theorem hC' {l:List UInt8} (f:Wire.reads l=true):Wire.proper (Wire.kindOf l) (Wire.epochOf l) (Wire.streamOf l) (Wire.seqOf l) (Wire.bodyOf l)=true:=by
 unfold Wire.reads at f;rw[Bool.and_eq_true]at f;exact f.2
section
variable {w:World} {p:Nat} {g0:Nat->Nat} {free:List Nat} {sh:Nat->List (Nat×Value)} {st:Mod.Stv} {c:Av} {a:Mod.Ag} {pl:Nat->List Nat}
end
theorem lQ' {w:World} {p e:Nat} {logs:Nat->List ByteArray} {sh:Nat->List (Nat×Value)} {st:Mod.Stv} {c:Sv} (f:aL' w p e logs sh st c):
  Calls Tryz.prog 67 #[y' p] w fun r w'=>r= .returned (.int .i64 e)/\w'=w:=by
 have c1:w.cell? ⟨p,1,none⟩=some (.int .i64 e):=by rw[m' f.ks.blk,f.ks.a1]
 clear f;unfold y';go_enter Tryz.func67,Tryz.ntmps67;go_wp2;go_ret;exact⟨rfl,rfl⟩
theorem lR' {w:World} {v:Value} {l:List ByteArray} (h:ao' w 9 1 v l.length (aK' l)) (hl:l.length<=1000):
  Calls Tryz.prog 100 #[v] w fun r w'=>∃f,r= .returned f/\w'.ownsRow w.heap.size 9 1 f l.length (aK' l)/\Below w.heap.size w w':=by
 obtain⟨_,h2⟩:=h;rcases h2 with ⟨rfl,z⟩|⟨g,o,cap,D,rfl,F,I,J,hs,G⟩
 ·obtain rfl:l=[]:=List.length_eq_zero_iff.1 z;refine(Tryz.slices_Clone_string_nil 0 0 w).mono ?_;rintro r y ⟨rfl,rfl⟩;exact⟨_,rfl,World.ownsRow_nil _ _ _ _,Below.refl _ _⟩
 ·refine(Tryz.slices_Clone_string g o l.length cap l w (Nat.le_refl _) (by omega) (fun j hj=>?_)).mono ?_
  ·have h0:((D.toList.drop o).take (l.length * 1))[j]? =(aK' l)[j]? :=by rw[G]
   rw[List.getElem?_take,if_pos (by omega),List.getElem?_drop]at h0;rw[m' F,<-Array.getElem?_toList,h0];simp[aK',hj,List.getD_eq_getElem?_getD]
  ·rintro r y ⟨f,rfl,u,_,H⟩;exact⟨f,rfl,by rw[List.take_of_length_le (Nat.le_refl _)]at u;exact u,H⟩
def oS' (s:Nat) (fv rv:Value):Array Value:= #[y' s, .int .i64 0, .int .i64 0, .int .i64 0,
 .slice none 0 0, .map none, .slice none 0 0, .map none, .slice none 0 0, .map none, .slice none 0 0, .map none, .slice none 0 0, .map none, .slice none 0 0, .map none, .slice none 0 0, .map none, .slice none 0 0, .map none, .slice none 0 0, .map none,
 fv, .int .i64 0, .bool false, .bool false,rv]
theorem mx' (s:Nat) (fv rv:Value):(∀i,i < 3->(oS' s fv rv)[1+i]? =some (.int .i64 0))/\∀k,k < 9->(oS' s fv rv)[4+k * 2]? =some (.slice none 0 0)/\(oS' s fv rv)[4+k * 2+1]? =some (.map none):=by
 refine⟨fun i hi=>?_,fun k f=>?_⟩
 ·obtain rfl|rfl|rfl:i=0\/i=1\/i=2:=by omega
  all_goals rfl
 ·obtain rfl|rfl|rfl|rfl|rfl|rfl|rfl|rfl|rfl:k=0\/k=1\/k=2\/k=3\/k=4\/k=5\/k=6\/k=7\/k=8:=by omega
  all_goals exact⟨rfl,rfl⟩
def ag0:Mod.Ag:={epoch:=1,ticks:=0,welcome:=false,fenced:=false,fl:=fun _=>{base:=0,kept:=[],held:=[]}}
theorem sE' {g:Nat->Nat} {free:List Nat} {sh:Nat->List (Nat×Value)} {a:Mod.Ag} {op:Nat} {D:Nat->List Nat} (f:aO' a op g free sh D) {i:Nat} (hi:i < 3) {k:Nat} {x:ByteArray×Nat} (M:(a.fl i).kept[k]? =some x) {t:Nat} (Q:t≠0):
  aO' {a with fl:=Mod.upd a.fl i {a.fl i with kept:=(a.fl i).kept.set k (x.1,t)}} op g free (fun j=>if j=i * 3+1 then aV' (sh (i * 3+1)) ((a.fl i).base+1+k) (dm' t)else sh j) D:=by
 obtain⟨r,u⟩:∃r,r=({a.fl i with kept:=(a.fl i).kept.set k (x.1,t)}:Mod.Flow):=⟨_,rfl⟩;have F:r.base=(a.fl i).base:=by rw[u]
 have U:r.held=(a.fl i).held:=by rw[u]
 have G:r.kept=(a.fl i).kept.set k (x.1,t):=by rw[u]
 have hl:r.kept.length=(a.fl i).kept.length:=by rw[G];simp
 have O:k < (a.fl i).kept.length:=(List.getElem?_eq_some_iff.1 M).1;rw[<-u];clear u;have z:∀j,Mod.upd a.fl i r j=if j=i then r else a.fl j:=fun j=>rfl
 refine⟨f.ep,fun j hj=>?_,fun j hj=>?_,fun j hj=>?_,fun j hj n=>?_,fun j hj=>?_,fun j hj n=>?_,fun j hj=>?_,fun j hj=>?_,f.nd,f.lt,?_⟩
 ·show g j=(Mod.upd a.fl i r j).base;rw[z];by_cases e:j=i
  ·rw[if_pos e,F,e];exact f.bs i hi
  ·rw[if_neg e];exact f.bs j hj
 ·show(D j).length=(Mod.upd a.fl i r j).kept.length;rw[z];by_cases e:j=i
  ·rw[if_pos e,hl,e];exact f.pn i hi
  ·rw[if_neg e];exact f.pn j hj
 ·show(if j * 3=i * 3+1 then _ else sh (j * 3))=aB' (Mod.upd a.fl i r j).base (Mod.upd a.fl i r j).kept (D j);rw[if_neg (by omega),z];by_cases e:j=i
  ·rw[if_pos e,F,e,f.kp i hi];refine eM' _ _ _ _ ?_;rw[G,List.map_set];refine(List.ext_getElem? fun n=>?_).symm;rw[List.getElem?_set];by_cases I:k=n
   ·subst I;rw[if_pos rfl,if_pos (by simpa using O),List.getElem?_map,M];rfl
   ·rw[if_neg I]
  ·rw[if_neg e];exact f.kp j hj
 ·show an' (if j * 3+1=i * 3+1 then _ else sh (j * 3+1)) _=cH' (Mod.upd a.fl i r j) n;rw[z];by_cases e:j=i
  ·subst e;rw[if_pos rfl,if_pos rfl,fU'];have h0:=f.sn j hj n;unfold jx';by_cases I:n=(a.fl j).base+1+k
   ·rw[if_pos (by omega)];unfold cH';rw[if_neg (by omega),F,G,show n - (a.fl j).base - 1=k by omega,List.getElem?_set,if_pos rfl,if_pos O];show _=if t=0 then none else some (dm' t)
    rw[if_neg Q]
   ·rw[if_neg (by omega),h0];unfold cH';rw[F];by_cases H:n<=(a.fl j).base
    ·rw[if_pos H,if_pos H]
    ·rw[if_neg H,if_neg H,G,List.getElem?_set,if_neg (by omega)]
  ·rw[if_neg (by omega),if_neg e];exact f.sn j hj n
 ·show kr' (if j * 3+1=i * 3+1 then _ else sh (j * 3+1));by_cases e:j=i
  ·subst e;rw[if_pos rfl];intro y J;rcases gY' J with rfl|J
   ·exact⟨t,rfl⟩
   ·exact f.si j hj y J
  ·rw[if_neg (by omega)];exact f.si j hj
 ·show(an' (if j * 3+2=i * 3+1 then _ else sh (j * 3+2)) _).isSome=(Mod.upd a.fl i r j).held.contains n;rw[if_neg (by omega),z];by_cases e:j=i
  ·rw[if_pos e,U,e];exact f.hd i hi n
  ·rw[if_neg e];exact f.hd j hj n
 ·show nf' (if j * 3+2=i * 3+1 then _ else sh (j * 3+2));rw[if_neg (by omega)];exact f.hu j hj
 ·show(if j * 3+2=i * 3+1 then _ else sh (j * 3+2)).length<=3;rw[if_neg (by omega)];exact f.hl j hj
 ·have h:=f.sum;have h2:=hv' (a:=a) hi r;omega
section
variable {w x:World} {p:Nat} {g:Nat->Nat} {tk:Nat} {wel fen:Bool} {free:List Nat} {sh sh2:Nat->List (Nat×Value)} {st:Mod.Stv} {c c2:Av}
theorem uL' {i:Nat} {G:List (Nat×Value)} (D:aA' w p g tk wel fen free sh st c) (h:bY' w x p (4+i * 2) 151 c.arr (c.nv i) (c.mv i) G)
  (z:aA' x p g tk wel fen free sh2 st c2):∀j,j < 9->j≠i->c2.nv j=c.nv j/\c2.mv j=c.mv j:=by
 obtain⟨⟨nv',mv',S,_,_⟩,_⟩:=h;have f:=S.blk;rw[z.ks.blk]at f;injection f with f;injection f with f _ _;intro j hj H;have F:∀q,q≠4+i * 2->q≠4+i * 2+1->c2.arr[q]? =c.arr[q]? :=fun q h1 h2=>by rw[f,Array.getElem?_setIfInBounds_ne (by omega),Array.getElem?_setIfInBounds_ne (by omega)]
 have r:=z.ks.an j hj;have u:=z.ks.am j hj;rw[F _ (by omega) (by omega),D.ks.an j hj]at r;rw[F _ (by omega) (by omega),D.ks.am j hj]at u;exact⟨by injection r with r;exact r.symm,by injection u with u;exact u.symm⟩
end
section
variable {w:World} {p:Nat} {g:Nat->Nat} {free:List Nat} {sh:Nat->List (Nat×Value)} {st:Mod.Stv} {c:Av} {a:Mod.Ag} {pl:Nat->List Nat}
theorem nw' (n:Nat) (f:n<=2147483647):Wire.proper 1 n 0 0 ⟨#[]⟩=true:=by
 simp[Wire.proper,Wire.isNum,ByteArray.size];omega
end
def aG' (a:Mod.Ag) (i tk k:Nat):Mod.Ag:={a with fl:=Mod.upd a.fl i {a.fl i with kept:=(Mod.sendTo a.epoch i (a.fl i) tk k).1}}
theorem ds' (a:Mod.Ag) (i tk k:Nat):(aG' a i tk k).fl i={a.fl i with kept:=(Mod.sendTo a.epoch i (a.fl i) tk k).1}:=by
 unfold aG' Mod.upd;simp
theorem oT' (a:Mod.Ag) (i tk:Nat):aG' a i tk 0=a:=by
 unfold aG';have:Mod.upd a.fl i {a.fl i with kept:=(Mod.sendTo a.epoch i (a.fl i) tk 0).1}=a.fl:=by
  funext t;unfold Mod.upd;split
  ·rename_i e;rw[e];rfl
  ·rfl
 rw[this]
theorem oU' {a:Mod.Ag} {i tk k:Nat} (f:k < (a.fl i).kept.length) (hd:Mod.due (a.fl i) tk k (a.fl i).kept[k].2=false):aG' a i tk (k+1)=aG' a i tk k:=by
 unfold aG';rw[ea' f hd]
theorem kF' {a:Mod.Ag} {i tk k:Nat} (f:k < (a.fl i).kept.length):((aG' a i tk k).fl i).kept[k]? =some (a.fl i).kept[k]:=by
 rw[ds'];show(Mod.sendTo a.epoch i (a.fl i) tk k).1[k]? = _;rw[kn' _ _ _ _ _ _ (Nat.le_refl _),List.getElem?_eq_getElem f]
theorem qQ' (a:Mod.Ag) (i tk k:Nat):((aG' a i tk k).fl i).kept.length=(a.fl i).kept.length:=by
 rw[ds'];exact gC' _ _ _ _ _
theorem qR' (a:Mod.Ag) (i tk k t j s:Nat):Mod.due ((aG' a i tk k).fl i) t j s=Mod.due (a.fl i) t j s:=by
 rw[ds'];rfl
theorem jm' (a:Mod.Ag) (i tk k:Nat):((aG' a i tk k).fl i).base=(a.fl i).base:=by rw[ds']
theorem oV' {g:Nat->Nat} {free:List Nat} {sh:Nat->List (Nat×Value)} {a:Mod.Ag} {op:Nat} {r:Nat->List Nat} {i tk k:Nat} (z:aO' (aG' a i tk k) op g free sh r) (hi:i < 3) (u:k < (a.fl i).kept.length) (hd:Mod.due (a.fl i) tk k (a.fl i).kept[k].2=true) (D:tk≠0):
  aO' (aG' a i tk (k+1)) op g free (fun j=>if j=i * 3+1 then aV' (sh (i * 3+1)) ((a.fl i).base+1+k) (dm' tk)else sh j) r:=by
 have h:=sE' z hi (kF' (tk:=tk) u) D;rw[jm']at h;have e:aG' a i tk (k+1)={aG' a i tk k with fl:=Mod.upd (aG' a i tk k).fl i {(aG' a i tk k).fl i with kept:=((aG' a i tk k).fl i).kept.set k ((a.fl i).kept[k].1,tk)}}:=by
  rw[ds'];unfold aG';rw[eb' u hd];have:∀ (f:Nat->Mod.Flow) (x y:Mod.Flow),Mod.upd (Mod.upd f i x) i y=Mod.upd f i y:=fun f x y=>by funext t;unfold Mod.upd;split <;> rfl
  simp only[this]
 rw[e];exact h
theorem oW' {a:Mod.Ag} {i tk k:Nat} (h:k=min 4 (a.fl i).kept.length):aG' a i tk 4=aG' a i tk k:=by
 unfold aG';rw[je' (i:=k) (by omega) (by omega)]
def bn' (a:Mod.Ag) (t s:Nat):Mod.Ag:={a with ticks:=t,fl:=Mod.sendFl a.epoch t a.fl s}
theorem gd' (a:Mod.Ag) (t s:Nat):(bn' a t s).fl s=a.fl s:=by
 unfold bn' Mod.sendFl;simp
theorem oX' (a:Mod.Ag) (t s:Nat):aG' (bn' a t s) s t 4=bn' a t (s+1):=by
 unfold aG';rw[gd'];have:Mod.upd (bn' a t s).fl s {a.fl s with kept:=(Mod.sendTo (bn' a t s).epoch s (a.fl s) t 4).1}=Mod.sendFl a.epoch t a.fl (s+1):=by
  funext j;unfold Mod.upd bn' Mod.sendFl;simp only
  by_cases e:j=s
  ·subst e;rw[if_pos rfl,if_pos (by omega)]
  ·rw[if_neg e];by_cases h:j < s
   ·rw[if_pos h,if_pos (by omega)]
   ·rw[if_neg h,if_neg (by omega)]
 rw[this];rfl
theorem oY' (a:Mod.Ag) (t:Nat):bn' a t 0={a with ticks:=t}:=by
 unfold bn';have:Mod.sendFl a.epoch t a.fl 0=a.fl:=by funext j;unfold Mod.sendFl;rw[if_neg (by omega)]
 rw[this]
theorem my' {a:Mod.Ag} (f:a.fenced=false) (r:a.welcome=true):a.tick=(bn' a (a.ticks+1) 3,Mod.sendOut a.epoch (a.ticks+1) a.fl 3):=by
 unfold Mod.Ag.tick;rw[if_neg (by rw[f];decide),if_neg (by rw[r];decide)];rfl
theorem dG' (k e s q:Int) (b:List UInt8):(Wire.bytes k e s q b).length=15+b.length:=Wire.length_bytes k e s q b
theorem qS' (n:Nat):(dZ' n).data.toList.length=15:=by
 unfold dZ';simp[dG']
theorem tL' (a:Mod.Sk) (e:Nat):(kl' a e).data.toList.length=27:=by
 unfold kl';simp[dG',jA',dR']
theorem tM' (a:Mod.Sk) (k e:Int) (s f:Nat) (b:ByteArray):(ot' a k e s f b).data.toList.length=16:=by
 unfold ot';simp[dG',ackBody]
theorem lS' (a:Mod.Sk) (k e:Int) (s q:Nat) (b:ByteArray):(bW' a k e s q b).2.length<=1/\∀x∈ (bW' a k e s q b).2,x.data.toList.length<=27:=by
 have h1:∀c:ByteArray,c.data.toList.length<=27->([c]:List ByteArray).length<=1/\∀x∈ ([c]:List ByteArray),x.data.toList.length<=27:=fun c h=>⟨by simp,fun x f=>by rw[List.mem_singleton]at f;rw[f];exact h⟩;unfold bW';repeat' split
 all_goals first
  |exact h1 _ (by rw[qS'];omega)
  |exact h1 _ (by rw[tL'];omega)
  |exact h1 _ (by rw[tM'];omega)
  |exact⟨by simp,fun x f=>by cases f⟩
theorem hD' (a:Mod.Sk) (l:List UInt8):(av' a l).2.2.length<=1/\∀x∈ (av' a l).2.2,x.data.toList.length<=27:=by
 unfold av';split
 ·exact lS' _ _ _ _ _ _
 ·simp
theorem L'.keep {B:Nat} {w x:World} {lv:Value} {fs:List Value} {u:List ByteArray} {z:Nat->Prop} (h:L' B w lv fs u z) (D:∀k,(lv.ownBlock=some k\/oz' fs fs.length k)->x.heap[k]? =w.heap[k]?):L' B x lv fs u z:=
 ⟨h.len,M' h.row (fun k f=>D k (.inl f)),fun j v r=>M' (h.each j v r) (fun k f=>D k (.inr ⟨j,(List.getElem?_eq_some_iff.1 r).1,v,r,f⟩)),h.apart,h.clear⟩
theorem L'.lt {B:Nat} {w:World} {lv:Value} {fs:List Value} {f:List ByteArray} {r:Nat->Prop} (h:L' B w lv fs f r):∀k,(lv.ownBlock=some k\/oz' fs fs.length k)->B<=k/\k < w.heap.size:=by
 rintro k (h1|⟨j,_,v,h1,h2⟩)
 ·exact World.ownsRow.lt h.row k h1
 ·exact World.ownsRow.lt (h.each j v h1) k h2
def jD' (fv:Value) (fs:List Value) (k:Nat):Prop:=fv.ownBlock=some k\/oz' fs fs.length k
theorem L'.apartU {B:Nat} {w:World} {lv:Value} {fs:List Value} {f:List ByteArray} {r U':Nat->Prop} (h:L' B w lv fs f r) (u:∀k,(lv.ownBlock=some k\/oz' fs fs.length k)->¬U' k):L' B w lv fs f U':=
 ⟨h.len,h.row,h.each,h.apart,u⟩
structure cl' (w:World) (g0 p i:Nat) (c:Av) (st:Mod.Stv) (g:Nat->Nat) (free:List Nat) (pl:Nat->List Nat) (F:List ByteArray) (A:Mod.Ag) (W:World):Prop where
 h0:W.heap[g0]? =some (.cells #[.pointer (some ⟨p,0,none⟩)] 88 (0,0))
 h1:W.heap[g0+1]? =some (.cells #[.int .i64 i] 3 (0,0))
 h3:W.heap[g0+3]? =some (.cells #[.pointer (some ⟨p,4+i * 6,none⟩)] 213 (0,0))
 h4:W.heap[g0+4]? =some (.cells #[.pointer (some ⟨p,4+i * 6,none⟩)] 209 (0,0))
 h5:W.heap[g0+5]? =some (.cells #[.int .i64 4] 3 (0,0))
 mid:∃lv fs c' sh,W.heap[g0+2]? =some (.cells #[lv] 38 (0,0))/\L' (g0+8) W lv fs F (PaU p c')/\aA' W p g A.ticks A.welcome A.fenced free sh st c'/\aO' A st.opening g free sh pl/\Far (PaU p c) w W/\
  (∀j,PaU p c' j->PaU p c j\/g0+8<=j)/\c'.s=c.s/\c'.rv=c.rv/\c'.nv (i * 3)=c.nv (i * 3)/\c'.mv (i * 3)=c.mv (i * 3)
 sz:g0+8<=W.heap.size
 lo:∀j,PaU p c j->j < g0
 gw:w.heap.size<=g0
section
variable {w W W':World} {g0 p i:Nat} {c:Av} {st:Mod.Stv} {g:Nat->Nat} {free:List Nat} {pl:Nat->List Nat} {F:List ByteArray} {A:Mod.Ag}
theorem cl'.same2 (h:cl' w g0 p i c st g free pl F A W) (r:oB' (g0+6) W W'):cl' w g0 p i c st g free pl F A W':=by
 obtain⟨lv,fs,z,sh,I,D,J,M,O,G,Q,U,V,X⟩:=h.mid;have f:∀k,k≠g0+6->k≠g0+7->W'.heap[k]? =W.heap[k]? :=fun k h1 h2=>r.rest k h1 (by omega);have hF:Far (fun k=>k=g0+6\/k=g0+7) W W':=⟨r.os,r.tape,r.output,by rw[r.size];exact Nat.le_refl _,fun k _ H=>f k (fun e=>H (.inl e)) (fun e=>H (.inr e))⟩;have Y:∀k,PaU p z k->¬ (k=g0+6\/k=g0+7):=fun k u e=>by
  rcases G k u with h1|h1
  ·have:=h.lo k h1;omega
  ·omega
 refine⟨(f _ (by omega) (by omega)).trans h.h0,(f _ (by omega) (by omega)).trans h.h1,(f _ (by omega) (by omega)).trans h.h3,(f _ (by omega) (by omega)).trans h.h4,(f _ (by omega) (by omega)).trans h.h5,
  ⟨lv,fs,z,sh,(f _ (by omega) (by omega)).trans I,D.keep (fun k u=>?_),J.far hF Y,M,O.trans hF (fun k u e=>by have:=h.gw;omega),G,Q,U,V,X⟩,by rw[r.size];exact h.sz,h.lo,h.gw⟩
 have:=(D.lt k u).1;exact f k (by omega) (by omega)
theorem cl'.below (h:cl' w g0 p i c st g free pl F A W) (r:Below W.heap.size W W'):cl' w g0 p i c st g free pl F A W':=by
 obtain⟨lv,fs,D,sh,G,z,H,I,J,M,O,Q,U,V⟩:=h.mid;have X:=h.sz;have f:∀k,k < W.heap.size->W'.heap[k]? =W.heap[k]? :=fun k u=>r.block k u;exact⟨(f _ (by omega)).trans h.h0,(f _ (by omega)).trans h.h1,(f _ (by omega)).trans h.h3,(f _ (by omega)).trans h.h4,(f _ (by omega)).trans h.h5,
  ⟨lv,fs,D,sh,(f _ (by omega)).trans G,z.keep (fun k u=>f k (z.lt k u).2),H.below r,I,J.trans (A' (E:=PaU p c) r) (fun _ _ h=>h),M,O,Q,U,V⟩,Nat.le_trans X r.size,h.lo,h.gw⟩
theorem cl'.iter (h:cl' w g0 p i c st g free pl F A W) (hi:i < 3):ne' W (g0+4) p (4+i * 6) 4 (c.nv (i * 3)) (c.mv (i * 3)) (aB' (A.fl i).base (A.fl i).kept (pl i)):=by
 obtain⟨lv,fs,D,sh,G,H,f,z,I,J,M,O,r,u⟩:=h.mid;have hs:=f.ks.shs (i * 3) (by omega);rw[z.kp i hi,r,u]at hs;refine⟨m' h.h4,m' h.h5,?_,?_,hs⟩
 ·rw[m' f.ks.blk,show 4+i * 6=4+i * 3 * 2 by omega,f.ks.an (i * 3) (by omega),r]
 ·rw[m' f.ks.blk,show 4+i * 6+1=4+i * 3 * 2+1 by omega,f.ks.am (i * 3) (by omega),u]
end
section
variable {w W:World} {g0 p i:Nat} {c:Av} {st:Mod.Stv} {g:Nat->Nat} {free:List Nat} {pl:Nat->List Nat} {F:List ByteArray} {a:Mod.Ag} {tk k:Nat}
theorem cl'.put (h:cl' w g0 p i c st g free pl F (aG' a i tk k) W) (hi:i < 3) (H:k < (a.fl i).kept.length) (hd:Mod.due (a.fl i) tk k (a.fl i).kept[k].2=true) (Z:tk≠0):
  Calls Tryz.prog 139 #[.pointer (some ⟨p,4+i * 6+2,none⟩), .int .i64 ((a.fl i).base+1+k:Nat), .int .i64 tk] W fun O f=>O= .returned (.tuple #[])/\cl' w g0 p i c st g free pl F (aG' a i tk (k+1)) f/\f.heap[g0+6]? =W.heap[g0+6]? /\f.heap[g0+7]? =W.heap[g0+7]? /\W.heap.size<=f.heap.size/\∀ (j:Nat) (Q:Array Value),W.heap[j]? =some (Obj.cells Q 158 (0,0))->f.heap[j]? =W.heap[j]? :=by
 obtain⟨lv,fs,G,sh,aa,z,D,I,ab,J,ac,ad,ah,ai⟩:=h.mid;have aj:(sh (i * 3+1)).length < 1000:=by have h1:=qD' (D.ks.shs (i * 3+1) (by omega)).sorted (I.sn i hi);have h2:=ng' (a:=aG' a i tk k) hi;have h3:=I.sum;omega
 have U:=tC' (D.shAt (i:=i * 3+1) (by omega)) aj ((a.fl i).base+1+k) tk;rw[show 4+(i * 3+1) * 2=4+i * 6+2 by omega]at U;refine U.mono ?_;rintro O f ⟨rfl,M⟩;refine⟨rfl,?_⟩;rw[show 4+i * 6+2=4+(i * 3+1) * 2 by omega]at M;obtain⟨c4,V,u,X,ak,ao⟩:=cz' D (by omega) M;have Y:=uL' D M V (i * 3) (by omega) (by omega);have ax:∀k,(k=p\/ShU (G.nv (i * 3+1)) (G.mv (i * 3+1)) k)->PaU p G k:=fun k H=>H.elim (fun h=> .inl (.inl h)) (fun h=> .inl (.inr (.inr ⟨i * 3+1,by omega,h⟩)));have ap:=h.sz;have aq:∀j,g0<=j->j < g0+8->¬PaU p G j:=fun j h1 h2 hu=>by
  rcases J j hu with h3|h3
  ·have:=h.lo j h3;omega
  ·omega
 have r:∀j,g0<=j->j < g0+8->f.heap[j]? =W.heap[j]? :=fun j h1 h2=>u.rest j (by omega) (aq j h1 h2);have au:=oV' I hi H hd Z;have av:=(z.keep (x:=f) (fun j hj=>u.rest j (z.lt j hj).2 (z.clear j hj))).apartU (U':=PaU p c4) (fun j hj hu=>by
  rcases X j hu with h3|h3
  ·exact z.clear j hj h3
  ·have:=(z.lt j hj).2;omega)
 refine⟨?_,r _ (by omega) (by omega),r _ (by omega) (by omega),u.size,fun j Q hj=>u.rest j (lt_of_block hj) (cG' D hj (by decide) (by decide) (by decide) (by decide) (by decide) (by decide) (by decide))⟩;refine⟨(r _ (by omega) (by omega)).trans h.h0,(r _ (by omega) (by omega)).trans h.h1,(r _ (by omega) (by omega)).trans h.h3,(r _ (by omega) (by omega)).trans h.h4,(r _ (by omega) (by omega)).trans h.h5,
  ⟨lv,fs,c4,_,(r _ (by omega) (by omega)).trans aa,av,V,au,ab.trans u (fun j hj hu=>(J j hu).elim id (fun h3=>by have:=h.gw;omega)),fun j hu=>?_,ak.trans ac,ao.trans ad,Y.1.trans ah,Y.2.trans ai⟩,Nat.le_trans ap u.size,h.lo,h.gw⟩
 rcases X j hu with h3|h3
 ·exact J j h3
 ·exact .inr (by omega)
end
end Go.Proofs.YtamafdcnbcoegaaGreat
