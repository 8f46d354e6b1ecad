/-
  Part 8 of a proof: L6, L7, K8, L8, L9, L10, L11, MonoKey, K7, K9, K10, K11, K12, K13, K14, K16, L12, K17, L14, L15, L16, L17, L18, T3, L19, L20.
-/
import Derived.Test.YtamafdcnbcoegabGreatCm7
set_option maxRecDepth 100000
set_option maxHeartbeats 40000000
namespace Go.Proofs.YtamafdcnbcoegabGreat
open Go.RowKit
theorem xL':(Tryz.prog.info? 3).map (·.size)=some 1:=by kernel_rfl
theorem sY' (S T:List Int) (w:World):∀ (r:List Nat),(∀i∈r,i < S.length/\i < T.length)->
  (Op.eqItems 9999 3 1 (S.map (Value.int .i64)).toArray (T.map (Value.int .i64)).toArray r).run Tryz.prog w= .ok (r.all fun i=>S.getD i 0==T.getD i 0) w
 |[],_=>by simp[Op.eqItems]
 |i::r,h=>by
  have h0:=h i (.head _);have z:(S.map (Value.int .i64)).toArray[i]? =some (.int .i64 (S.getD i 0)):=by simp[h0.1,List.getD_eq_getElem?_getD]
  have D:(T.map (Value.int .i64)).toArray[i]? =some (.int .i64 (T.getD i 0)):=by simp[h0.2,List.getD_eq_getElem?_getD]
  have F:=run_part_plain (P:=Tryz.prog) w (e:=3) (by kernel_rfl) (off:=i) z;have G:=run_part_plain (P:=Tryz.prog) w (e:=3) (by kernel_rfl) (off:=i) D;have H:=run_equalIn_int (P:=Tryz.prog) w 9998 3 .i64 .i64 (S.getD i 0) (T.getD i 0) Tryz.underlying3;have ih:=sY' S T w r (fun j hj=>h j (.tail _ hj));simp only[Op.eqItems,Nat.mul_one,Sem.run_bind,F,G,H,Result.andThen_ok,List.all_cons];cases I:(S.getD i 0==T.getD i 0)
  ·simp
  ·simpa using ih
theorem ik' (a b c d e f:Int) (w:World):(Op.equalIn 10000 100 (.agg #[.int .i64 a, .int .i64 b, .int .i64 c]) (.agg #[.int .i64 d, .int .i64 e, .int .i64 f])).run Tryz.prog w= .ok (a==d&& (b==e&&c==f)) w:=by
 obtain⟨i,hi⟩:∃i,Tryz.prog.info? 3=some i:=by
  have:=xL';cases h:Tryz.prog.info? 3 with
  |none=>rw[h]at this;cases this
  |some i=>exact⟨i,rfl⟩
 have r:Tryz.prog.cellsOf 3=1:=by kernel_rfl
 have e:=sY' [a,b,c] [d,e,f] w (List.range 3) (fun i hi=>by have:=List.mem_range.1 hi;simp;omega);rw[<-r]at e;refine(run_equalIn_array (P:=Tryz.prog) w 9999 #[.int .i64 a, .int .i64 b, .int .i64 c] _ Tryz.underlying100 hi).trans (e.trans ?_);simp[List.range_succ]
def xv' (B:Nat) (n:Nat) (v:Value) (w:World):Prop:=∃g,v= .slice (some ⟨g,0,none⟩) 1 1/\B<=g/\w.heap[g]? =some (.cells #[.int .i64 n] 3 (0,0))
theorem pM' (B n:Nat):bL' (xv' B n):=fun _ _ _ h r=>by
 obtain⟨g,e,h1,h2⟩:=h;exact⟨g,e,h1,(r.block g (lt_of_block h2)).trans h2⟩
theorem il' {B n:Nat} {E:Nat->Prop} (r:∀k,E k->k < B):ba' E (xv' B n):=fun _ _ _ h hF=>by
 obtain⟨g,e,h1,h2⟩:=h;exact⟨g,e,h1,hF.blk h2 (fun e=>by have:=r _ e;omega)⟩
def xw' (w0:World) (fv:Value) (l:List Nat) (v:Value) (w:World):Prop:=as' w 3 1 v l.length (J' l)/\Loc w0 fv v/\w0.heap.size<=w.heap.size
theorem pN' (w0:World) (fv:Value) (l:List Nat):bL' (xw' w0 fv l):=fun _ _ _ h r=>
 ⟨h.1.keep (fun g z=>r.block g (h.1.lt g z)),h.2.1,Nat.le_trans h.2.2 r.size⟩
theorem ok' {w0:World} {fv:Value} {l:List Nat} {E:Nat->Prop} (z:∀k,E k->k < w0.heap.size/\fv.ownBlock≠some k):ba' E (xw' w0 fv l):=fun _ _ _ h hF=>
 ⟨h.1.far hF (fun g r e=>by
  obtain⟨h1,h2⟩:=z g e;rcases h.2.1 with h3|h3|⟨k,h3,h4⟩
  ·rw[h3]at r;cases r
  ·rw[h3]at r;exact h2 r
  ·rw[h3]at r;cases r;omega),h.2.1,Nat.le_trans h.2.2 hF.size⟩
def agD (a:Mod.Ag) (n:Nat->Nat) (j:Nat):Mod.Ag:={a with fl:=Mod.dropTo a.fl n j}
theorem vg' (a:Mod.Ag) (n:Nat->Nat):agD a n 0=a:=by unfold agD;rw[Mod.dropTo_zero]
theorem lf' (a:Mod.Ag) (n:Nat->Nat) (j:Nat):(agD a n j).fl j=a.fl j:=Mod.dropTo_self _ _ _
theorem vh' (a:Mod.Ag) (n:Nat->Nat) (j:Nat):agD a n (j+1)={agD a n j with fl:=Mod.upd (agD a n j).fl j (((agD a n j).fl j).drop (n j))}:=by
 unfold agD;simp only[Mod.dropTo_succ,Mod.dropTo_self]
theorem tV' (a:Mod.Ag) (n:Nat->Nat):agD a n 3=a.drop n:=rfl
theorem tW' {a:Mod.Ag} {n:Nat->Nat} (h:∀i,i < 3->n i=0):a.drop n=a:=by
 unfold Mod.Ag.drop;have:Mod.dropTo a.fl n 3=a.fl:=by
  funext t;unfold Mod.dropTo;split
  ·rename_i r;rw[h t r];simp[Mod.Flow.drop]
  ·rfl
 rw[this]
theorem lh':∀ (b:Nat) (k:List (ByteArray×Nat)) (p:List Nat) (t:Nat),p.length=k.length->(r:t < k.length)->(eK' (aE' b k p))[t * 2]? =some (.string k[t].1)/\(eK' (aE' b k p))[t * 2+1]? =some (.int .i64 (p.getD t 0:Nat))
 |b,[],_,t,_,r=>by simp at r
 |b,_:: _,[],t,h,_=>by simp at h
 |b,x::z,q::D,0,_,_=>by rw[aO'];exact⟨rfl,rfl⟩
 |b,x::z,q::D,t+1,h,r=>by have ih:=lh' (b+1) z D t (by simpa using h) (by simpa using r);rw[aO'];have F:eK' ((b+1,ce' x.1 q)::aE' (b+1) z D)=[.string x.1, .int .i64 q]++eK' (aE' (b+1) z D):=rfl;rw[F,show(t+1) * 2=t * 2+2 by omega,show t * 2+2+1=t * 2+1+2 by omega,List.getElem?_append_right (by simp),List.getElem?_append_right (by simp)];simpa using ih
theorem li':∀ (n b:Nat) (k:List (ByteArray×Nat)) (p:List Nat),(aE' b k p).take n=aE' b (k.take n) (p.take n)
 |0,b,k,p=>by cases k <;> cases p <;> rfl
 |n+1,b,[],p=>by cases p <;> rfl
 |n+1,b,x::r,[]=>rfl
 |n+1,b,x::r,q::z=>by rw[aO',List.take_succ_cons,List.take_succ_cons,List.take_succ_cons,aO',li' n (b+1) r z]
theorem ol' {w x y:World} {p o:Nat} {t:TypeId} {arr:Array Value} {nv mv:Value} {l:List (Nat×Value)} (h:dS' w x p o t arr nv mv l) (r:Below x.heap.size x y):dS' w y p o t arr nv mv l:=by
 obtain⟨⟨nv',S,e⟩,hF⟩:=h;exact⟨⟨nv',⟨(r.block _ (lt_of_block S.blk)).trans S.blk,S.c0,S.c1,S.sh.far (C' (E:=fun _=>False) r) (fun _ _ h=>h),S.ty⟩,e⟩,hF.trans (C' r) (fun _ _ h=>h)⟩
section
variable {w:World} {p:Nat} {g:Nat->Nat} {free:List Nat} {sh:Nat->List (Nat×Value)} {st:Mod.Stv} {c:Av} {a:Mod.Ag} {pl:Nat->List Nat}
theorem rP' (z:aC' w p g a.ticks a.welcome a.fenced free sh st c) (r:Nat->Nat) (G:∀i,i < 3->r i=g i):
  Calls Tryz.prog 117 #[A' p, .agg #[.int .i64 (r 0), .int .i64 (r 1), .int .i64 (r 2)]] w fun U D=>U= .returned (.int .i64 0)/\Below w.heap.size w D:=by
 have g0:w.cell? ⟨p,1,none⟩=some (.int .i64 (r 0)):=by rw[t' z.ks.blk,G 0 (by omega)];exact z.ks.ag 0 (by omega)
 have g1:w.cell? ⟨p,2,none⟩=some (.int .i64 (r 1)):=by rw[t' z.ks.blk,G 1 (by omega)];exact z.ks.ag 1 (by omega)
 have g2:w.cell? ⟨p,3,none⟩=some (.int .i64 (r 2)):=by rw[t' z.ks.blk,G 2 (by omega)];exact z.ks.ag 2 (by omega)
 have I:=lt_of_block z.ks.blk;generalize r 0=J at *;generalize r 1=M at *;generalize r 2=O at *;have Z:∀D:World,(Op.equalIn 10000 100 (.agg #[.int .i64 J, .int .i64 M, .int .i64 O]) (.agg #[.int .i64 J, .int .i64 M, .int .i64 O])).run Tryz.prog D= .ok true D:=fun D=>by rw[ik'];simp
 clear z G;unfold A';go_enter Tryz.func117,Tryz.ntmps117;go_upto_region 1 with fail;refine H' (fun x=>x.heap[w.heap.size]? =some (.cells #[.int .i64 J, .int .i64 M, .int .i64 O] 100 (0,0))/\Below w.heap.size w x) ⟨heap_alloc_new _ _,(Below.refl _ _).alloc (Nat.le_refl _) _⟩ ?_;rintro x ⟨H,F⟩;have V:=t' (i:=0) H;have X:=t' (i:=1) H;have Y:=t' (i:=2) H;simp at V X Y;have z0:=(F.cell (p:=⟨p,1,none⟩) I).trans g0;have aa:=(F.cell (p:=⟨p,2,none⟩) I).trans g1;have ab:=(F.cell (p:=⟨p,3,none⟩) I).trans g2;have Q:=y' F;clear H F g0 g1 g2;go_quiet (fail);go_wp2;go_ret;exact⟨rfl,(i' Q).trans (below_drewN (Below.refl _ _) _ |>.mono (i' Q).size)⟩
theorem pO' {tk:Nat} {wel fen:Bool} (r:aC' w p g tk wel fen free sh st c) (z:Nat->Nat):
  aA' w (((w.setCell ⟨p,1,none⟩ (.int .i64 (z 0))).setCell ⟨p,2,none⟩ (.int .i64 (z 1))).setCell ⟨p,3,none⟩ (.int .i64 (z 2))) p z tk wel fen free sh st c:=by
 have D:∀ {w:World} {c:Av} {g:Nat->Nat} (i:Nat) (hi:i < 3) (v:Nat),aC' w p g tk wel fen free sh st c->aA' w (w.setCell ⟨p,1+i,none⟩ (.int .i64 v)) p (fun t=>if t=i then v else g t) tk wel fen free sh st c:=by
  intro w c g i hi v r;have H:=r.ks.sz;refine ep' r (1+i) (.int .i64 v) (.inl (by omega)) (fun j hj=>?_) ?_ ?_ ?_
  ·by_cases e:j=i
   ·subst e;have:1+j < c.arr.size:=by omega
    simp[this]
   ·rw[Array.getElem?_setIfInBounds_ne (by omega),r.ks.ag j hj,if_neg e]
  ·rw[Array.getElem?_setIfInBounds_ne (by omega)];exact r.ks.at'
  ·rw[Array.getElem?_setIfInBounds_ne (by omega)];exact r.ks.aw
  ·rw[Array.getElem?_setIfInBounds_ne (by omega)];exact r.ks.ae
 have h1:=D 0 (by omega) (z 0) r;have h2:=h1.trans (fun F h=>D 1 (by omega) (z 1) h);have h3:=h2.trans (fun F h=>D 2 (by omega) (z 2) h);obtain⟨F,h,G⟩:=h3;refine⟨F,⟨{h.ks with ag:=fun i hi=>?_},h.stt,h.rl,h.len⟩,G⟩;rw[h.ks.ag i hi];obtain rfl|rfl|rfl:i=0\/i=1\/i=2:=by omega
 all_goals simp
end
theorem sZ' {a:Mod.Sk} {sh:Nat->List (Nat×Value)} (r:dn' a.held sh) (A:∀s,s < 3->hp' (sh s)) {s:Nat} (hs:s < 3) (q:Nat):(ar' (sh s) (q:Int)).isSome=(a.ix s q).isSome:=by
 cases h:a.ix s q with
 |none=>
  rcases gt' (A s hs) (q:Int)with ⟨b,hl⟩|hl
  ·exact absurd ((r s hs q b).1 hl) (kA' h b)
  ·rw[hl];rfl
 |some i=>rw[(r s hs q _).2 (gu' h)];rfl
theorem pP' {a:Mod.Sk} {sh:Nat->List (Nat×Value)} (r:dn' a.held sh) (A:∀s,s < 3->hp' (sh s)) {s:Nat} (hs:s < 3) (up:Nat):∀j,cc' (sh s) up j=cP' a s up j
 |0=>rfl
 |j+1=>by rw[cc',cP',pP' r A hs up j,sZ' r A hs]
theorem mC' {a:Mod.Sk} {sh:Nat->List (Nat×Value)} (r:dn' a.held sh) (A:∀s,s < 3->hp' (sh s)) {s:Nat} (hs:s < 3) (up:Nat):(⟨#[UInt8.ofNat (cc' (sh s) up 3)]⟩:ByteArray)=ackBody a s up:=by
 rw[pP' r A hs up 3];rfl
theorem fS' {a:Mod.Sk} {st q n:Nat}:∀ (f:Nat) (out:List ByteArray),120<=n+out.length+f->¬ (n+(a.commitFrom st q n f out).length < 120)\/a.ix st (q+(a.commitFrom st q n f out).length)=none
 |0,out,h=> .inl (by show ¬ (n+out.length < 120);omega)
 |f+1,out,h=>by
  by_cases r:n+out.length < 120
  ·cases hi:a.ix st (q+out.length)with
   |none=>rw[Mod.Sk.commitFrom_none r hi];exact .inr hi
   |some i=>rw[Mod.Sk.commitFrom_some r hi];exact fS' f _ (by simp;omega)
  ·rw[Mod.Sk.commitFrom_stop r];exact .inl r
theorem pQ' {a:Mod.Sk} (D:aR' a) (s q:Nat) (b:ByteArray) (G:b.size<=20):aR' (bA' a s q b):=by
 unfold bA';split
 ·rename_i h;obtain⟨h1,h2,h3⟩:=h;refine⟨fun x z=>?_,fun H t I c r=>?_⟩
  ·simp only[List.mem_append,List.mem_singleton]at z;rcases z with z|rfl
   ·exact D.bod x z
   ·exact G
  ·simp only[List.mem_append,List.mem_singleton]at r;rcases r with r|r
   ·exact D.nxt H t I c r
   ·injection r with J F;injection F with F M;subst J;omega
 ·exact D
theorem pR' {a:Mod.Sk} (D:aR' a) (s:Nat) (b:ByteArray) (hs:s < 3) (H:a.count < 120):aR' (bB' a s (a.commitFrom s ((a.logs s).length+1) a.count 120 [b])):=by
 have F:=fS' (a:=a) (st:=s) (q:=(a.logs s).length+1) (n:=a.count) 120 [b] (by omega);obtain⟨r,I⟩:∃r,r=a.commitFrom s ((a.logs s).length+1) a.count 120 [b]:=⟨_,rfl⟩;rw[<-I]at F ⊢;have J:(bB' a s r).count=a.count+r.length:=fL' a s hs r;refine⟨fun x M=>D.bod x (List.mem_filter.1 (show x∈a.held.filter _ from M)).1,fun G t O c Q=>?_⟩;rw[J]at G;have z:(t,((bB' a s r).logs t).length+1,c) ∈a.held:=(List.mem_filter.1 (show _∈a.held.filter _ from Q)).1;by_cases e:t=s
 ·subst e;rw[fN',List.length_append]at z;rcases F with h|h
  ·exact h G
  ·rw[show(a.logs t).length+1+r.length=(a.logs t).length+r.length+1 by omega]at h;exact kA' h c z
 ·have hl:(bB' a s r).logs t=a.logs t:=by show(if t=s then _ else a.logs t)= _;rw[if_neg e]
  rw[hl]at z;exact D.nxt H t O c z
theorem om' {a:Mod.Sk} (r:aR' a) (e:Nat):aR' (bc' a e):=by
 unfold bc' dI';split
 ·exact⟨fun x z=>by simp at z,fun _ t _ c D=>by simp at D⟩
 ·exact⟨r.bod,r.nxt⟩
theorem im' {a:Mod.Sk} {s:Nat} {b:ByteArray} (r:a.count < 120):a.commits 3 a.epoch s ((a.logs s).length+1:Nat) b=a.commitFrom s ((a.logs s).length+1) a.count 120 [b]:=by
 unfold Mod.Sk.commits;rw[if_neg (by simp),if_neg (by omega)];simp
theorem eB' {a:Mod.Sk} {s q:Nat} {b:ByteArray} (h:¬ (q=(a.logs s).length+1/\a.count < 120)):a.commits 3 a.epoch s q b=[]:=by
 unfold Mod.Sk.commits;by_cases h1:q=(a.logs s).length+1
 ·rw[if_neg (by simp[h1]),if_pos (by omega)]
 ·rw[if_pos (by right;right;simp;omega)]
theorem in' {a:Mod.Sk} {s:Nat} {b:ByteArray} (r:a.count < 120):ak' a 3 a.epoch s ((a.logs s).length+1) b=bB' a s (a.commitFrom s ((a.logs s).length+1) a.count 120 [b]):=by
 unfold ak';rw[im' r,if_neg (ex' (by simp))]
theorem fe' {a:Mod.Sk} {s q:Nat} {b:ByteArray} (h:¬ (q=(a.logs s).length+1/\a.count < 120)):ak' a 3 a.epoch s q b=bA' a s q b:=by
 unfold ak';rw[eB' h,if_pos rfl]
theorem on' {a:Mod.Sk} (r:aR' a) (s q:Nat) (b:ByteArray) (hs:s < 3) (D:b.size<=20):aR' (ak' a 3 a.epoch s q b):=by
 by_cases h:q=(a.logs s).length+1/\a.count < 120
 ·obtain⟨rfl,z⟩:=h;rw[in' z];exact pR' r s b hs z
 ·rw[fe' h];exact pQ' r s q b D
theorem tX' {a:Mod.Sk} {sh:Nat->List (Nat×Value)} (r:dn' a.held sh) (s q:Nat) (b:ByteArray) (hs:s < 3) (D:a.ix s q=none):dn' (a.held++[(s,q,b)]) (fun t=>if t=s then bb' (sh s) q (du' b)else sh t):=by
 intro t z n c;show ar' (if t=s then _ else sh t) _= _↔ _;rw[List.mem_append,List.mem_singleton];by_cases e:t=s
 ·subst e;rw[if_pos rfl,gp'];unfold ko';by_cases h1:(n:Int)=(q:Int)
  ·have F:n=q:=by omega
   subst F;rw[if_pos rfl];constructor
   ·intro h;injection h with h;unfold du' at h;injection h with h;have:c=b:=by have:=congrArg Array.toList h;simp at this;exact this.symm
    subst this;exact .inr rfl
   ·rintro(h|h)
    ·exact absurd h (kA' D c)
    ·injection h with _ h;injection h with _ h;rw[h]
  ·rw[if_neg h1,r t z n c];constructor
   ·exact .inl
   ·rintro(h|h)
    ·exact h
    ·injection h with _ h;injection h with h _;omega
 ·rw[if_neg e,r t z n c];constructor
  ·exact .inl
  ·rintro(h|h)
   ·exact h
   ·injection h with h _;exact absurd h e
theorem vi':dn' [] (fun _=>[]):=by
 intro t _ n c;simp[ar']
structure bg' (w:World) (cs:Array Value) (x:World):Prop where
 box:x.heap[w.heap.size]? =some (.cells cs 63 (0,0))
 bel:Below w.heap.size w x
theorem cK' (w:World) (r:Array Value):bg' w r (w.alloc (.cells r 63)):=⟨heap_alloc_new _ _,(Below.refl _ _).alloc (Nat.le_refl _) _⟩
theorem bg'.lt {w x:World} {r:Array Value} (h:bg' w r x):w.heap.size < x.heap.size:=lt_of_block h.box
theorem bg'.below {w x y:World} {r:Array Value} (h:bg' w r x) (z:Below x.heap.size x y):bg' w r y:=
 ⟨(z.block _ h.lt).trans h.box,h.bel.trans (z.mono h.bel.size)⟩
theorem bg'.drewN {w x:World} {r:Array Value} (h:bg' w r x) (n:Nat):bg' w r (x.drewN n):=h.below (below_drewN (Below.refl _ _) n)
theorem rQ' {a:Mod.Sk} {sh:Nat->List (Nat×Value)} (G:aw' a) (H:dn' a.held sh) (A:∀s,s < 3->hp' (sh s)) {s:Nat} (hs:s < 3) (I:((sh s).map (·.1)).Pairwise (· < ·)):(sh s).length < 1000:=by
 have r:∀n∈ (sh s).map (·.1),(a.logs s).length+1<=n/\n<=(a.logs s).length+4:=by
  intro n z;have F:(ar' (sh s) (n:Int)).isSome=true:=by rw[fD'];simpa using z
  rcases gt' (A s hs) (n:Int)with ⟨b,hl⟩|hl
  ·have D:=(H s hs n b).1 hl;exact(G.held _ D).2
  ·rw[hl]at F;cases F
 have h1:(((sh s).map (·.1)).map fun n=>n - (a.logs s).length - 1).Nodup:=by rw[List.Nodup,List.pairwise_map];refine I.imp_of_mem (fun {x y} J M O e=>?_);have Q:=r x J;have U:=r y M;omega
 have h2:=ii' 4 _ h1 (fun n z=>by obtain⟨m,D,rfl⟩:=List.mem_map.1 z;have:=r m D;omega);simp at h2;omega
section
variable {w x:World} {p:Nat} {g:Nat->Nat} {tk:Nat} {wel fen:Bool} {free:List Nat} {sh:Nat->List (Nat×Value)} {st:Mod.Stv} {c:Av} {a:Mod.Ag} {pl:Nat->List Nat}
theorem rR' (r:aC' w p g tk wel fen free sh st c) (v:Bool):aA' w (w.setCell ⟨p,25,none⟩ (.bool v)) p g tk wel v free sh st c:=by
 have z:=r.ks.sz;refine ep' r 25 (.bool v) (.inr (by omega)) (fun j hj=>?_) ?_ ?_ ?_
 ·rw[Array.getElem?_setIfInBounds_ne (by omega)];exact r.ks.ag j hj
 ·rw[Array.getElem?_setIfInBounds_ne (by omega)];exact r.ks.at'
 ·rw[Array.getElem?_setIfInBounds_ne (by omega)];exact r.ks.aw
 ·have:25 < c.arr.size:=by omega
  simp[this]
theorem lj' (r:aC' w p g tk wel fen free sh st c) (v:Bool):aA' w (w.setCell ⟨p,24,none⟩ (.bool v)) p g tk v fen free sh st c:=by
 have z:=r.ks.sz;refine ep' r 24 (.bool v) (.inr (by omega)) (fun j hj=>?_) ?_ ?_ ?_
 ·rw[Array.getElem?_setIfInBounds_ne (by omega)];exact r.ks.ag j hj
 ·rw[Array.getElem?_setIfInBounds_ne (by omega)];exact r.ks.at'
 ·have:24 < c.arr.size:=by omega
  simp[this]
 ·rw[Array.getElem?_setIfInBounds_ne (by omega)];exact r.ks.ae
theorem er' (r:aC' w p g tk wel fen free sh st c) (v:Nat):aA' w (w.setCell ⟨p,23,none⟩ (.int .i64 v)) p g v wel fen free sh st c:=by
 have z:=r.ks.sz;refine ep' r 23 (.int .i64 v) (.inr (by omega)) (fun j hj=>?_) ?_ ?_ ?_
 ·rw[Array.getElem?_setIfInBounds_ne (by omega)];exact r.ks.ag j hj
 ·have:23 < c.arr.size:=by omega
  simp[this]
 ·rw[Array.getElem?_setIfInBounds_ne (by omega)];exact r.ks.aw
 ·rw[Array.getElem?_setIfInBounds_ne (by omega)];exact r.ks.ae
theorem aQ'.flags {op:Nat} (r:aQ' a op g free sh pl) (tk:Nat) (wel fen:Bool):aQ' {a with ticks:=tk,welcome:=wel,fenced:=fen} op g free sh pl:=
 ⟨r.ep,r.bs,r.pn,r.kp,r.sn,r.si,r.hd,r.hu,r.hl,r.nd,r.lt,r.sum⟩
end
def clr (sh:Nat->List (Nat×Value)) (j:Nat) (t:Nat):List (Nat×Value):=if t % 3≠0/\t < j * 3 then []else sh t
theorem vj' (sh:Nat->List (Nat×Value)):clr sh 0=sh:=by funext t;unfold clr;rw[if_neg (by omega)]
theorem vk' (sh:Nat->List (Nat×Value)) (j:Nat):(fun t=>if t=j * 3+2 then([]:List (Nat×Value))else(fun t=>if t=j * 3+1 then []else clr sh j t) t)=clr sh (j+1):=by
 funext t;unfold clr;by_cases h1:t=j * 3+2
 ·rw[if_pos h1,if_pos (by omega)]
 ·rw[if_neg h1];show(if t=j * 3+1 then([]:List (Nat×Value))else _)= _;by_cases h2:t=j * 3+1
  ·rw[if_pos h2,if_pos (by omega)]
  ·rw[if_neg h2];by_cases h3:t % 3≠0/\t < j * 3
   ·rw[if_pos h3,if_pos (by omega)]
   ·rw[if_neg h3,if_neg (by omega)]
section
variable {w:World} {p:Nat} {g:Nat->Nat} {free:List Nat} {sh:Nat->List (Nat×Value)} {st:Mod.Stv} {c:Av} {a:Mod.Ag} {op:Nat} {pl:Nat->List Nat}
theorem rS' (r:aQ' a op g free sh pl):aQ' {a with welcome:=true,fl:=Mod.fresh a.fl 3} op g free (clr sh 3) pl:=by
 have z:∀i,i < 3->Mod.fresh a.fl 3 i={a.fl i with kept:=(a.fl i).kept.map fun D=>(D.1,0),held:=[]}:=fun i hi=>by unfold Mod.fresh;rw[if_pos hi]
 refine⟨r.ep,fun i hi=>?_,fun i hi=>?_,fun i hi=>?_,fun i hi n=>?_,fun i hi=>?_,fun i hi n=>?_,fun i hi=>?_,fun i hi=>?_,r.nd,r.lt,?_⟩
 ·show g i=(Mod.fresh a.fl 3 i).base;rw[z i hi];exact r.bs i hi
 ·show(pl i).length=(Mod.fresh a.fl 3 i).kept.length;rw[z i hi];simpa using r.pn i hi
 ·show clr sh 3 (i * 3)=aE' (Mod.fresh a.fl 3 i).base (Mod.fresh a.fl 3 i).kept (pl i);unfold clr;rw[if_neg (by omega),z i hi,r.kp i hi];exact fd' _ _ _ _ (by simp)
 ·show ar' (clr sh 3 (i * 3+1)) _=cS' (Mod.fresh a.fl 3 i) n;unfold clr;rw[if_pos (by omega),z i hi];unfold cS';simp only
  split
  ·rfl
  ·cases h:((a.fl i).kept.map fun D=>(D.1,0))[n - (a.fl i).base - 1]? with
   |none=>rfl
   |some x=>
    rw[List.getElem?_map]at h;cases G:(a.fl i).kept[n - (a.fl i).base - 1]? with
    |none=>rw[G]at h;cases h
    |some y=>rw[G]at h;cases h;rfl
 ·show lb' (clr sh 3 (i * 3+1));unfold clr;rw[if_pos (by omega)];intro x F;cases F
 ·show(ar' (clr sh 3 (i * 3+2)) _).isSome=(Mod.fresh a.fl 3 i).held.contains n;unfold clr;rw[if_pos (by omega),z i hi];rfl
 ·show og' (clr sh 3 (i * 3+2));unfold clr;rw[if_pos (by omega)];intro x F;cases F
 ·show(clr sh 3 (i * 3+2)).length<=3;unfold clr;rw[if_pos (by omega)];simp
 ·have h:=r.sum;have h2:Mod.Ag.room {a with welcome:=true,fl:=Mod.fresh a.fl 3}=a.room:=by simp[Mod.Ag.room,Mod.fresh]
  rw[h2];exact h
theorem ta' (b l:Nat) (n:Int):max (b:Int) (min n ((b+l:Nat):Int))=((b+min (n - b).toNat l:Nat):Int):=by omega
theorem lk' (F:aC' w p g a.ticks a.welcome a.fenced free sh st c) (G:aQ' a st.opening g free sh pl) (e:Nat) (s q:Int) (b:ByteArray) (M:e≠a.epoch):
  Calls Tryz.prog 76 #[A' p, .agg #[.int .i64 2, .int .i64 e, .int .i64 s, .int .i64 q, .string b]] w fun O z=>O= .returned (.int .i64 0)/\Below w.heap.size w z:=by
 have H:=fun z (Q:Below w.heap.size w z)=>y' (bq' (F.below Q));obtain⟨ep,D⟩:∃ep,ep=a.epoch:=⟨_,rfl⟩;have I:st.opening=ep:=by rw[D];exact G.ep
 rw[I]at H;rw[<-D]at M;have J:=y' (cK' w #[.int .i64 2, .int .i64 e, .int .i64 s, .int .i64 q, .string b]);have Y:((e:Int) != (ep:Int))=true:=by simp;omega
 clear F G I D;unfold A' at *;go_enter Tryz.func76,Tryz.ntmps76;go_upto_region 1 with fail;refine H' (bg' w #[.int .i64 2, .int .i64 e, .int .i64 s, .int .i64 q, .string b]) (i' J) ?_;clear J;intro x r;have U:=t' (i:=1) r.box;simp at U;have V:=fun n=>y' (i' (H (x.drewN n) (r.drewN n).bel));have X:=y' r;clear r;go_quiet (first|(go_at_call 52;exact Calls.quiet_of_same (i' (V _))));go_wp2;go_ret;exact⟨rfl,((i' X).drewN _).bel⟩
end
theorem ll' {P:List Nat->Prop} (h0:P []) (h1:∀l n,P l->P (l++[n])) (l:List Nat):P l:=by
 have r:∀ (k:Nat) (l:List Nat),l.length=k->P l:=by
  intro k;induction k with
  |zero=>intro l hl;rw[List.length_eq_zero_iff.1 hl];exact h0
  |succ k ih=>
   intro l hl;rcases List.eq_nil_or_concat l with rfl|⟨z,n,rfl⟩
   ·simp at hl
   ·rw[List.concat_eq_append];exact h1 _ _ (ih _ (by simpa using hl))
 exact r _ l rfl
theorem ff' (l:List Nat) (n:Nat):(l++[n]).foldl (fun l n=>bb' l n cQ') []=bb' (l.foldl (fun l n=>bb' l n cQ') []) n cQ':=by simp
theorem rT':∀ (l:List Nat),og' (l.foldl (fun l n=>bb' l n cQ') []):=by
 refine ll' (fun x r=>by cases r) (fun l n ih=>?_)
 ·rw[ff'];intro x r;rcases ic' r with rfl|r
  ·rfl
  ·exact ih x r
theorem no':∀ (l:List Nat),(l.foldl (fun l n=>bb' l n cQ') []).length<=l.length:=by
 refine ll' (by simp) (fun l n ih=>?_)
 ·rw[ff'];have:=fF' (l.foldl (fun l n=>bb' l n cQ') []) n cQ';simp;omega
theorem rU':∀ (l:List Nat) (n:Nat),(ar' (l.foldl (fun l n=>bb' l n cQ') []) (n:Int)).isSome=l.contains n:=by
 refine ll' (fun n=>rfl) (fun l m ih=>?_)
 ·intro n;rw[ff',gp'];unfold ko';by_cases h:(n:Int)=(m:Int)
  ·have r:n=m:=by omega
   subst r;rw[if_pos rfl];simp
  ·rw[if_neg h,ih n];have r:¬n=m:=by omega
   simp[r]
section
variable {g:Nat->Nat} {free:List Nat} {sh:Nat->List (Nat×Value)} {a:Mod.Ag} {op:Nat} {pl:Nat->List Nat}
theorem tY' (r:aQ' a op g free sh pl) {s:Nat} (hs:s < 3) (l:List Nat) (hl:l.length<=3):
  aQ' {a with fl:=Mod.upd a.fl s {a.fl s with held:=l}} op g free (fun t=>if t=s * 3+2 then l.foldl (fun l n=>bb' l n cQ') []else sh t) pl:=by
 have z:∀j,Mod.upd a.fl s {a.fl s with held:=l} j=if j=s then {a.fl s with held:=l}else a.fl j:=fun j=>rfl
 refine⟨r.ep,fun j hj=>?_,fun j hj=>?_,fun j hj=>?_,fun j hj n=>?_,fun j hj=>?_,fun j hj n=>?_,fun j hj=>?_,fun j hj=>?_,r.nd,r.lt,?_⟩
 ·show g j=(Mod.upd a.fl s {a.fl s with held:=l} j).base;rw[z];by_cases e:j=s
  ·subst e;rw[if_pos rfl];exact r.bs j hj
  ·rw[if_neg e];exact r.bs j hj
 ·show(pl j).length=(Mod.upd a.fl s {a.fl s with held:=l} j).kept.length;rw[z];by_cases e:j=s
  ·subst e;rw[if_pos rfl];exact r.pn j hj
  ·rw[if_neg e];exact r.pn j hj
 ·show(if j * 3=s * 3+2 then _ else sh (j * 3))=aE' (Mod.upd a.fl s {a.fl s with held:=l} j).base (Mod.upd a.fl s {a.fl s with held:=l} j).kept (pl j);rw[if_neg (by omega),z];by_cases e:j=s
  ·subst e;rw[if_pos rfl];exact r.kp j hj
  ·rw[if_neg e];exact r.kp j hj
 ·show ar' (if j * 3+1=s * 3+2 then _ else sh (j * 3+1)) _=cS' (Mod.upd a.fl s {a.fl s with held:=l} j) n;rw[if_neg (by omega),z];by_cases e:j=s
  ·subst e;rw[if_pos rfl];exact r.sn j hj n
  ·rw[if_neg e];exact r.sn j hj n
 ·show lb' (if j * 3+1=s * 3+2 then _ else sh (j * 3+1));rw[if_neg (by omega)];exact r.si j hj
 ·show(ar' (if j * 3+2=s * 3+2 then _ else sh (j * 3+2)) _).isSome=(Mod.upd a.fl s {a.fl s with held:=l} j).held.contains n;rw[z];by_cases e:j=s
  ·subst e;rw[if_pos rfl,if_pos rfl];exact rU' l n
  ·rw[if_neg (by omega),if_neg e];exact r.hd j hj n
 ·show og' (if j * 3+2=s * 3+2 then _ else sh (j * 3+2));by_cases e:j=s
  ·subst e;rw[if_pos rfl];exact rT' l
  ·rw[if_neg (by omega)];exact r.hu j hj
 ·show(if j * 3+2=s * 3+2 then _ else sh (j * 3+2)).length<=3;by_cases e:j=s
  ·subst e;rw[if_pos rfl];exact Nat.le_trans (no' l) hl
  ·rw[if_neg (by omega)];exact r.hl j hj
 ·have h:=r.sum;obtain⟨D,F⟩:∃D,D=({a.fl s with held:=l}:Mod.Flow):=⟨_,rfl⟩;have G:D.kept.length=(a.fl s).kept.length:=by rw[F]
  have h2:=ij' (a:=a) hs D;rw[<-F];omega
end
theorem xc' {b:ByteArray} (h:0 < b.size):b[0].toNat=(b.data.toList.getD 0 0).toNat:=by
 have r:0 < b.data.size:=h;simp[List.getD_eq_getElem?_getD,Array.getElem?_eq_getElem r,ByteArray.getElem_eq_getElem_data]
section
variable {w:World} {p:Nat} {g:Nat->Nat} {free:List Nat} {sh:Nat->List (Nat×Value)} {st:Mod.Stv} {c:Av} {a:Mod.Ag} {pl:Nat->List Nat}
theorem oo' (r:aC' w p g a.ticks a.welcome a.fenced free sh st c) (G:aQ' a st.opening g free sh pl) (e:Nat) (s q:Int) (b:ByteArray) (H:e≠a.epoch\/a.welcome=false):
  Calls Tryz.prog 77 #[A' p, .agg #[.int .i64 4, .int .i64 e, .int .i64 s, .int .i64 q, .string b]] w fun X D=>X= .returned (.int .i64 0)/\Below w.heap.size w D:=by
 have I:=fun D (Y:Below w.heap.size w D)=>y' (bq' (r.below Y));have Z:=lt_of_block r.ks.blk;have J:w.cell? ⟨p,24,none⟩=some (.bool a.welcome):=by rw[t' r.ks.blk,r.ks.aw]
 obtain⟨ep,F⟩:∃ep,ep=a.epoch:=⟨_,rfl⟩;have M:st.opening=ep:=by rw[F];exact G.ep
 rw[M]at I;rw[<-F]at H;have O:=y' (cK' w #[.int .i64 4, .int .i64 e, .int .i64 s, .int .i64 q, .string b]);generalize a.welcome=wel at *;clear r G M F;unfold A' at *;go_enter Tryz.func77,Tryz.ntmps77;go_upto_region 1 with fail;refine H' (bg' w #[.int .i64 4, .int .i64 e, .int .i64 s, .int .i64 q, .string b]) (i' O) ?_;clear O;intro x z;have aa:=t' (i:=1) z.box;simp at aa;have ad:=(z.bel.cell (p:=⟨p,24,none⟩) Z).trans J;have Q:=fun n=>y' (i' (I (x.drewN n) (z.drewN n).bel));have U:=y' z;clear z J;by_cases V:e=ep
 ·have ab:wel=false:=H.resolve_left (fun h=>h V);subst ab;have ac:((e:Int) != (ep:Int))=false:=by simp[V]
  go_quiet (first|(go_at_call 52;exact Calls.quiet_of_same (i' (Q _))))
  go_wp2;go_ret;exact⟨rfl,((i' U).drewN _).bel⟩
 ·have ac:((e:Int) != (ep:Int))=true:=by simp;omega
  go_quiet (first|(go_at_call 52;exact Calls.quiet_of_same (i' (Q _))))
  go_wp2;go_ret;exact⟨rfl,((i' U).drewN _).bel⟩
end
def gB' (o:Oper):Tmp:=match o.dst with
 |some d=>d
 |none=>match o.op with
  | .store _ (.tmp t) _=>t
  | _=>0
def fT' (o:Oper) (a:Act) (v:Value):Value:=match o.dst with
 |some _=>v
 |none=>a.tmps.getD (gB' o) undef
def tb' (r:Array Oper):Bool:=(List.range r.size).all fun k=>match r[k]? with
 |none=>true
 |some o=>match o.dst with
  |some _=>true
  |none=>match wr r (gB' o)with
   |none=>true
   |some j=>av' r k j
theorem rV' {r:Array Oper} (h:tb' r=true) {k j:Nat} {o:Oper} (z:r[k]? =some o) (hd:o.dst=none) (hj:wr r (gB' o)=some j):av' r k j=true:=by
 unfold tb' at h;have:=List.all_eq_true.1 h k (List.mem_range.2 (Array.getElem?_eq_some_iff.1 z).1);rw[z]at this;simp only[hd,hj]at this;exact this
section
variable {P:Program} {ops:Array Oper} {Q:Exit->Act->World->Prop}
structure rW' (ops:Array Oper) (Φ:Nat->Value->World->Prop) (E:Nat->Nat->Prop) (a0:Act) (w0:World) (L:Array Bool) (a:Act) (w:World):Prop where
 size:L.size=ops.size
 ext:Far (fun b=>∃k,L.getD k false=true/\E k b) w0 w
 closed:∀k,L.getD k false=true->∀j,av' ops k j=true->L.getD j false=true
 vals:∀i o,ops[i]? =some o->L.getD i false=true->Φ i (a.tmps.getD (gB' o) undef) w
 rest:∀t,(∀j,wr ops t=some j->L.getD j false=false)->a.tmps.getD t undef=a0.tmps.getD t undef
 defers:a.defers=a0.defers
 tsize:a.tmps.size=a0.tmps.size
theorem vl' {a0:Act} {w0:World} (F:Nat->Value->World->Prop) (E:Nat->Nat->Prop) (ai:Nat) (ab:World->World->Prop) (aI:∀w,ab w w) (aj:bz' ops a0.tmps.size=true) (aJ:tb' ops=true)
  (aK:∀i j v w w',i≠j->av' ops j i=false->F j v w->Far (E i) w w'->(i=ai->ab w w')->F j v w')
  (aL:∀i o,ops[i]? =some o->∀a w,Far (fun b=>∃k,k≠i/\av' ops k i=false/\E k b) w0 w->bw' ops F a0 i o a w->
   if Region.wanted o (yielded ops a.tmps)=true then o.wp P a w (fun a' w'=>∃v,a'=a.put o.dst v/\Far (E i) w w'/\F i (fT' o a v) w'/\(i=ai->ab w w')) Q else F i (fT' o a undef) w)
  (aM:∀a w,Far (fun b=>∃k,E k b) w0 w->(∀i o,ops[i]? =some o->F i (a.tmps.getD (gB' o) undef) w)->(∀t,wr ops t=none->a.tmps.getD t undef=a0.tmps.getD t undef)->a.defers=a0.defers->a.tmps.size=a0.tmps.size->Q .normal a w):
  ∀ (U:Nat) (L:Array Bool) (a:Act) (w:World),rW' ops F E a0 w0 L a w->(List.range ops.size).countP (fun i=> !L.getD i false)<=U->wpAny P .any ops Q U L a w:=by
 have aC:∀ (L:Array Bool) (a:Act) (w:World),rW' ops F E a0 w0 L a w->Region.ready .any ops L=[]->Q .normal a w:=by
  intro L a w r ac;have aN:∀n i,i < n->i < ops.size->L.getD i false=true:=by
   intro n;induction n with
   |zero=>intro i h;omega
   |succ n ih=>
    intro i h hi;by_cases aO:i < n
    ·exact ih i aO hi
    ·have e:i=n:=by omega
     subst e;cases aD:L.getD i false
     ·exfalso;have D:ops[i]? =some ops[i]:=Array.getElem?_eq_getElem hi;obtain⟨_,_,h3⟩:=al' aj D;have:i∈Region.ready .any ops L:=mem_ready.2 ⟨by
       have hs:i < L.size:=by rw[r.size];exact hi
       rw[Array.getD_eq_getD_getElem?,Array.getElem?_eq_getElem hs]at aD ⊢;exact aD,ops[i],D,fun e ak G=>by
       have hd:av' ops i e.on=true:=by unfold av';rw[D];exact Array.any_eq_true'.2 ⟨e,ak,by simp[G]⟩
       have M:=h3 _ hd;exact ih e.on M (by omega)⟩
      rw[ac]at this;cases this
     ·rfl
  refine aM a w (r.ext.mono (fun b _ h=>h.imp fun k h=>h.2)) (fun i o D=>r.vals i o D (aN ops.size i (Array.getElem?_eq_some_iff.1 D).1 (Array.getElem?_eq_some_iff.1 D).1)) (fun t V=>r.rest t (fun j hj=>by rw[V]at hj;cases hj)) r.defers r.tsize
 intro U;induction U with
 |zero=>
  intro L a w r aP;have ac:Region.ready .any ops L=[]:=by
   apply List.eq_nil_iff_forall_not_mem.2;intro i hi;obtain⟨h0,o,D,_⟩:=mem_ready.1 hi;have M:i < ops.size:=(Array.getElem?_eq_some_iff.1 D).1;have H:L.getD i false=false:=by
    have hs:i < L.size:=by rw[r.size];exact M
    rw[Array.getD_eq_getD_getElem?,Array.getElem?_eq_getElem hs]at h0 ⊢;exact h0
   have:0 < (List.range ops.size).countP (fun i=> !L.getD i false):=List.countP_pos_iff.2 ⟨i,List.mem_range.2 M,by simp[H]⟩;omega
  exact⟨ac,aC L a w r ac⟩
 |succ U ih=>
  intro L a w r aP;refine⟨aC L a w r,fun i hi=>?_⟩;obtain⟨h0,o,D,aQ⟩:=mem_ready.1 hi;have M:i < ops.size:=(Array.getElem?_eq_some_iff.1 D).1;have ao:i < L.size:=by rw[r.size];exact M
  have H:L.getD i false=false:=by rw[Array.getD_eq_getD_getElem?,Array.getElem?_eq_getElem ao]at h0 ⊢;exact h0
  obtain⟨hd,hl,aV⟩:=al' aj D;have aE:∀j,av' ops i j=true->L.getD j false=true:=by intro j hj;unfold av' at hj;rw[D]at hj;obtain⟨e,ak,G⟩:=Array.any_eq_true'.1 hj;simp only[Bool.and_eq_true,beq_iff_eq]at G;rw[<-G.2];exact aQ e ak G.1
  have aR:bw' ops F a0 i o a w:=by
   intro t V;cases J:wr ops t with
   |none=>exact r.rest t (fun j hj=>by rw[J]at hj;cases hj)
   |some j=>
    simp only[];have hj:=List.find?_some J;simp only[beq_iff_eq]at hj;split
    ·rename_i ap;cases aq:ops[j]? with
     |none=>rw[aq]at hj;cases hj
     |some au=>
      rw[aq]at hj;have aF:=r.vals j au aq (aE j ap);have ad:au.dst=some t:=hj;have aS:gB' au=t:=by unfold gB';rw[ad]
      rw[aS]at aF;exact aF
    ·rename_i ap;refine r.rest t (fun aW ad=>?_);rw[J]at ad;cases ad;rcases hl t V j J with h|h
     ·exact absurd h ap
     ·cases av:L.getD j false
      ·rfl
      ·have:=r.closed j av i h;rw[H]at this;cases this
  have aG:∀v w',Far (E i) w w'->(i=ai->ab w w')->F i (fT' o a v) w'->rW' ops F E a0 w0 (L.setIfInBounds i true) (a.put o.dst v) w':=by
   intro v w' G ax O;have X:∀k,(L.setIfInBounds i true).getD k false=true↔ (k=i\/L.getD k false=true):=by
    intro k;by_cases z:k=i
    ·subst z;simp[Array.getD_eq_getD_getElem?,ao]
    ·rw[getD_set_ne false (fun e=>z e.symm)];simp[z]
   have ah:∀t,(a.put o.dst v).tmps.getD t undef=if o.dst=some t then v else a.tmps.getD t undef:=by
    intro t;cases I:o.dst with
    |none=>simp[Act.put]
    |some d=>
     simp only[Act.put,Option.some.injEq];have aT:d < a.tmps.size:=by rw[r.tsize];exact(hd d I).1
     by_cases h:d=t
     ·subst h;simp[Array.getD_eq_getD_getElem?,aT]
     ·simp[Array.getD_eq_getD_getElem?,h]
   refine⟨by simp[r.size],(r.ext.mono (fun b _ h=>by obtain⟨k,h1,h2⟩:=h;exact⟨k,(X k).2 (.inr h1),h2⟩)).trans G (fun b _ h=>⟨i,(X i).2 (.inl rfl),h⟩),?_,?_,?_,?_,?_⟩
   ·intro k z j hj;rw[X]at z ⊢;rcases z with rfl|z
    ·exact .inr (aE j hj)
    ·exact .inr (r.closed k z j hj)
   ·intro k ok Y z;rw[X]at z;rcases z with rfl|z
    ·rw[D]at Y;cases Y;unfold fT' at O;cases I:o.dst with
     |none=>rw[I]at O;have Z:=ah (gB' o);rw[if_neg (by rw[I];simp),I]at Z;rw[Z];exact O
     |some d=>
      rw[I]at O;have hs:gB' o=d:=by unfold gB';rw[I]
      have Z:=ah d;rw[if_pos I,I]at Z;rw[hs,Z];exact O
    ·have aa:i≠k:=by intro e;subst e;rw[H]at z;cases z
     have ay:av' ops k i=false:=by
      cases hd:av' ops k i with
      |false=>rfl
      |true=>have:=r.closed k z i hd;rw[H]at this;cases this
     have aU:=aK i k _ _ _ aa ay (r.vals k ok Y z) G ax;have az:o.dst≠some (gB' ok):=by
      intro e;have h1:=(hd _ e).2;cases aA:ok.dst with
      |some d=>
       have hs:gB' ok=d:=by unfold gB';rw[aA]
       have h2:=((al' aj Y).1 d aA).2;rw[hs,h2]at h1;cases h1;exact aa rfl
      |none=>have:=rV' aJ Y aA h1;rw[this]at ay;cases ay
     rw[ah,if_neg az];exact aU
   ·intro t V;rw[ah];have az:o.dst≠some t:=by intro e;have:=V i (hd t e).2;have h2:=(X i).2 (.inl rfl);rw[this]at h2;cases h2
    rw[if_neg az];refine r.rest t (fun j hj=>?_);cases av:L.getD j false
    ·rfl
    ·have:=V j hj;rw[(X j).2 (.inr av)]at this;cases this
   ·cases o.dst <;> exact r.defers
   ·rw[<-r.tsize];cases o.dst <;> simp[Act.put]
  have aH:(List.range ops.size).countP (fun k=> !(L.setIfInBounds i true).getD k false)<=U:=by
   have:=cj' (l:=List.range ops.size) (p:=fun k=> !L.getD k false) (q:=fun k=> !(L.setIfInBounds i true).getD k false)
    (fun k _ z=>by
     by_cases aa:k=i
     ·subst aa;simp[H]
     ·rw[getD_set_ne false (fun e=>aa e.symm)]at z;exact z)
    ⟨i,List.mem_range.2 M,by simp[H],by simp[Array.getD_eq_getD_getElem?,ao]⟩
   omega
  have aB:=aL i o D a w (r.ext.mono (fun b _ h=>by
   obtain⟨k,h1,h2⟩:=h;refine⟨k,fun e=>?_,?_,h2⟩
   ·subst e;rw[H]at h1;cases h1
   ·cases hd:av' ops k i with
    |false=>rfl
    |true=>have:=r.closed k h1 i hd;rw[H]at this;cases this)) aR
  unfold wpOp;rw[D];simp only[];split at aB
  ·rename_i J;rw[if_pos J];refine .inl (Oper.wp_mono ?_ aB);rintro a' w' ⟨v,rfl,G,O,ax⟩;exact ih _ _ _ (aG v w' G ax O) aH
  ·rename_i J;rw[if_neg J];exact ih _ _ _ (aG undef w (Far.refl _ _) (fun _=>aI w) aB) aH
def op' (E:Nat->Prop) (z:World->World->Prop) (r:Value->World->Prop):Prop:=∀v w w',r v w->Far E w w'->z w w'->r v w'
theorem dW' {E:Nat->Prop} {z:World->World->Prop} {r:Value->World->Prop} (h:ba' E r):op' E z r:=fun v w w' h1 h2 _=>h v w w' h1 h2
def fg' (ops:Array Oper) (i:Nat) (E:Nat->Prop) (r:World->World->Prop):Nat->List (Value->World->Prop)->Prop
 | _,[]=>True
 |j,z::D=>(i=j\/av' ops j i=true\/op' E r z)/\fg' ops i E r (j+1) D
def hu' (ops:Array Oper) (L:List (Value->World->Prop)) (r:Nat) (z:World->World->Prop):List (Nat× (Nat->Prop))->Prop
 |[]=>True
 |p::D=>fg' ops p.1 p.2 (fun w w'=>p.1=r->z w w') 0 L/\hu' ops L r z D
theorem fU' {ops:Array Oper} {i:Nat} {E:Nat->Prop} {r:World->World->Prop}:∀ {L:List (Value->World->Prop)} {s:Nat},fg' ops i E r s L->∀j,i≠s+j->av' ops (s+j) i=false->op' E r (L.getD j (fun _ _=>True))
 |[],_,_,_,_,_=>fun _ _ _ _ _ _=>by simp
 |F::z,s,h,0,D,hd=>by
  rcases h.1 with h|h|h
  ·exact absurd h D
  ·rw[Nat.add_zero]at hd;rw[hd]at h;cases h
  ·exact h
 |F::z,s,h,j+1,D,hd=>by have:=fU' (L:=z) (s:=s+1) h.2 j (by omega) (by rw[show s+1+j=s+(j+1) by omega];exact hd);simpa using this
theorem fV' {ops:Array Oper} {L:List (Value->World->Prop)} {z:Nat} {D:World->World->Prop}:∀ {F:List (Nat× (Nat->Prop))},hu' ops L z D F->∀p∈F,fg' ops p.1 p.2 (fun w w'=>p.1=z->D w w') 0 L
 |[],_,_,r=>by cases r
 |q::G,h,p,r=>by
  cases r with
  |head=>exact h.1
  |tail _ r=>exact fV' h.2 p r
def rX' (P:Program) (ops:Array Oper) (Q:Exit->Act->World->Prop) (L:List (Value->World->Prop)) (r:List (Nat× (Nat->Prop))) (z:Nat) (D:World->World->Prop) (a0:Act) (w0:World):Nat->List Oper->List (List (Tmp×Option Nat))->List (Value->World->Prop)->Prop
 |i,o::os,G::H,F::I=>(∀a w,Far (dB' r ops i) w0 w->M' L a0 a w G->
   if Region.wanted o (yielded ops a.tmps)=true then o.wp P a w (fun a' w'=>∃v,a'=a.put o.dst v/\Far (ev' r i) w w'/\F (fT' o a v) w'/\(i=z->D w w')) Q else F (fT' o a undef) w)/\rX' P ops Q L r z D a0 w0 (i+1) os H I
 | _,[],_,_=>True
 | _,_,_,_=>False
theorem lm' {L:List (Value->World->Prop)} {H:List (Nat× (Nat->Prop))} {I:Nat} {J:World->World->Prop} {a0:Act} {w0:World}:∀ {s:Nat} {os:List Oper} {D:List (List (Tmp×Option Nat))} {F:List (Value->World->Prop)},rX' P ops Q L H I J a0 w0 s os D F->
  ∀ (i:Nat) o r,os[i]? =some o->D[i]? =some r->∀a w,Far (dB' H ops (s+i)) w0 w->M' L a0 a w r->
   if Region.wanted o (yielded ops a.tmps)=true then o.wp P a w (fun a' w'=>∃v,a'=a.put o.dst v/\Far (ev' H (s+i)) w w'/\F.getD i (fun _ _=>True) (fT' o a v) w'/\(s+i=I->J w w')) Q else F.getD i (fun _ _=>True) (fT' o a undef) w
 | _,[],_,_,_,i,o,r,z,_=>by simp at z
 | _,o::os,[],_,h,_,_,_,_,_=>h.elim
 | _,o::os,r::D,[],h,_,_,_,_,_=>h.elim
 | _,o::os,r::D,O::F,h,0,M,pl',z,G=>by simp at z G;subst z;subst G;exact h.1
 |s,o::os,r::D,O::F,h,i+1,M,pl',z,G=>by have:=lm' h.2 i M pl' (by simpa using z) (by simpa using G);rw[show s+1+i=s+(i+1) by omega]at this;simpa using this
def fW' (f:Nat->Value) (w:World):List Tmp->List (Value->World->Prop)->Prop
 |d::ds,r::z=>r (f d) w/\fW' f w ds z
 | _,_=>True
def xx' (ops:Array Oper):List Tmp:=ops.toList.map gB'
theorem jU' {f:Nat->Value} {w:World}:∀ {os:List Oper} {L:List (Value->World->Prop)},(∀i o,os[i]? =some o->L.getD i (fun _ _=>True) (f (gB' o)) w)->fW' f w (os.map gB') L
 |[],_,_=>by simp[fW']
 |o::os,[],_=>by simp[fW']
 |o::os,F::r,h=>by have ih:=jU' (os:=os) (L:=r) (fun i z D=>by have:=h (i+1) z (by simpa using D);simpa using this);exact⟨h 0 o rfl,ih⟩
theorem mD' {id:Nat} {a0:Act} {w0:World} (Y:P.follows .mixedOrders=true) (L:List (Value->World->Prop)) (J:List (List (Tmp×Option Nat))) (V:List Tmp) (M:List Bool) (D:List (Nat× (Nat->Prop))) (O:Nat) (H:World->World->Prop) (Z:∀w,H w w)
  (aa:ne' D=true) (ab:bz' ops a0.tmps.size=true) (ac:tb' ops=true) (ad:bZ' ops=J) (ah:xx' ops=V) (X:bl' ops a0.tmps.size=M) (ai:bD' L) (aj:hu' ops L O H D) (ak:rX' P ops Q L D O H a0 w0 0 ops.toList J L)
  (ao:∀f w,Far (fun b=>∃p∈D,p.2 b) w0 w->fW' f w V L->Q .normal {tmps:=(Y' M a0.tmps.toList 0 f).toArray,defers:=a0.defers} w):
  (Code.region id ops true).wp P Q a0 w0:=by
 refine wp_region_any Y (vl' (w0:=w0) (fun i=>L.getD i (fun _ _=>True)) (ev' D) O H Z ab ac ?_ ?_ ?_ ops.size _ a0 _ ⟨by simp,C' ((Below.refl _ _).drew),?_,?_,fun _ _=>rfl,rfl,rfl⟩ ?_)
 ·intro i j v w w' aA hd I hF ap;by_cases hi:∃p∈D,p.1=i
  ·obtain⟨p,F,rfl⟩:=hi;have hs:=fU' (fV' aj p F) j (by omega) (by rw[Nat.zero_add];exact hd);exact hs v w w' I (hF.mono (fun b _ h=>by obtain⟨q,U,e,r⟩:=h;rw[iZ' aa F U e.symm];exact r)) ap
  ·exact bo' ai j v w w' I (hF.below (Nat.le_refl _) (fun k _ h=>by obtain⟨q,U,e,_⟩:=h;exact hi ⟨q,U,e⟩))
 ·intro i o G a w r aq;have au:i < ops.size:=(Array.getElem?_eq_some_iff.1 G).1;have av:J[i]? =some ((o.looksAt ops).map fun t=>(t,match wr ops t with
     |some j=>if av' ops i j=true then some j else none
     |none=>none)):=by
   rw[<-ad];unfold bZ';rw[List.getElem?_map,List.getElem?_range au,Option.map_some,G];try rfl
  have:=lm' ak i o _ (by simpa using G) av a w (by rw[Nat.zero_add];exact r.mono (fun b _ h=>by obtain⟨k,h1,h2,p,F,rfl,h3⟩:=h;exact⟨p,F,h1,h2,h3⟩)) (bk' rfl (o:=o) _ aq);rw[Nat.zero_add]at this;exact this
 ·intro a w r I ax hd hs;have h:=ao (fun t=>a.tmps.getD t undef) w (r.mono (fun b _ h=>by obtain⟨k,p,F,_,h3⟩:=h;exact⟨p,F,h3⟩)) (by rw[<-ah];exact jU' (fun i o G=>I i o (by simpa using G)));have e:Y' M a0.tmps.toList 0 (fun t=>a.tmps.getD t undef)=a.tmps.toList:=by
   refine ck' _ _ _ _ _ (by rw[<-X];simp[bl']) (by simpa using hs) ?_ ?_
   ·intro j hj _;simp[Array.getD_eq_getD_getElem?,List.getD_eq_getElem?_getD]
   ·intro j hj r;rw[<-X]at r;have ay:j < a0.tmps.size:=by rw[<-hs];simpa using hj
    have az:wr ops j=none:=by unfold bl' at r;simp[List.getD_eq_getElem?_getD,List.getElem?_map,List.getElem?_range ay]at r;exact r
    have:=ax j az;simpa[Array.getD_eq_getD_getElem?,List.getD_eq_getElem?_getD]using this
  rw[e,<-hd]at h;exact h
 ·intro k z;simp[Array.getD_eq_getD_getElem?]at z;rcases h:(Array.replicate ops.size false)[k]? with _|b <;> simp[h]at z;subst z;have:=Array.getElem?_eq_some_iff.1 h;obtain⟨h1,h2⟩:=this;simp at h2
 ·intro i o G z;exfalso;simp[Array.getD_eq_getD_getElem?]at z;rcases h:(Array.replicate ops.size false)[i]? with _|b <;> simp[h]at z;subst z;have:=Array.getElem?_eq_some_iff.1 h;obtain⟨h1,h2⟩:=this;simp at h2
 ·exact Nat.le_trans List.countP_le_length (by simp)
end
theorem cp' {w:World} {p e:Nat} {logs:Nat->List ByteArray} {sh:Nat->List (Nat×Value)} {st:Mod.Stv} {c:Sv} (r:aN' w p e logs sh st c) {q:Nat} {D:Array Value} {t:TypeId} {fr:Nat×Nat} (z:w.heap[q]? =some (.cells D t fr))
  (h1:t≠125) (h2:t≠9) (h3:t≠3) (h4:t≠190) (h5:t≠233) (F:t≠5) (G:t≠254) (H:t≠130):¬PkU p c q:=by
 rintro(h|(h|h)|h)
 ·exact cn' r.ks z h1 h2 h3 h
 ·subst h;have:=r.stt.blk;rw[z]at this;injection this with this;injection this with _ this _;exact h4 this
 ·exact el' r.stt.dk z (fun e=>h5 e.symm) (fun e=>F e.symm) (fun e=>G e.symm) h
 ·exact r.rl.ne z (fun e=>H e.symm) h
theorem da' (a:Mod.Sk) (s:Nat):(grown a s []).logs=a.logs:=by
 funext t;show(if t=s then a.logs s++[]else a.logs t)= _;split
 ·rename_i h;subst h;simp
 ·rfl
theorem ln' (a:Mod.Sk) (s:Nat) (out:List ByteArray) (c:ByteArray):(fun j=>if j=s then(grown a s out).logs s++[c]else(grown a s out).logs j)=(grown a s (out++[c])).logs:=by
 funext t;show(if t=s then(if s=s then a.logs s++out else a.logs s)++[c]else(if t=s then a.logs s++out else a.logs t))=if t=s then a.logs s++(out++[c])else a.logs t
 split
 ·simp
 ·rfl
theorem jk' (a:Mod.Sk) (s:Nat) (hs:s < 3) (out:List ByteArray):((grown a s out).logs 0).length+((grown a s out).logs 1).length+((grown a s out).logs 2).length=a.count+out.length:=fL' a s hs out
theorem lo' (a:Mod.Sk) (s:Nat) (out:List ByteArray):(grown a s out).logs s=a.logs s++out:=by
 show(if s=s then _ else _)= _;rw[if_pos rfl]
def oq' (r z:World):Prop:=∀ (g:Nat) (x:ByteArray),r.heap[g]? =some (.cells #[.string x] 224 (0,0))->∃D:ByteArray,z.heap[g]? =some (.cells #[.string D] 224 (0,0))
theorem or' (w:World):oq' w w:=fun _ x h=>⟨x,h⟩
theorem pS' (w:World) (g:Nat) (b:ByteArray):oq' w (w.setCell ⟨g,0,none⟩ (.string b)):=by
 intro k x h;by_cases e:k=g
 ·subst e;have:=ah' (j:=0) (v:= .string b) h;exact⟨b,by simpa using this⟩
 ·exact⟨x,(S' w g 0 (.string b)).blk h e⟩
def pT':Option Value->Nat
 |some (.slice _ n _)=>n
 | _=>0
theorem gG' (e:Nat) (w:World):Calls Tryz.prog 85 #[.int .i64 e] w fun r w'=>r= .returned (.agg #[.int .i64 e, .int .i64 0, .int .i64 0])/\Below w.heap.size w w':=by
 go_enter Tryz.func85,Tryz.ntmps85;go_wp2;refine bodyPost_ret (v:= .agg #[.int .i64 e, .int .i64 0, .int .i64 0]) (by simp[results,Tryz.results85,go_sem]) rfl ⟨rfl,?_⟩;exact(Below.refl _ _).alloc (Nat.le_refl _) _
theorem jV' (e:Nat) (w:World):Calls Tryz.prog 131 #[.int .i64 e] w fun r w'=>r= .returned (.agg #[.int .i64 5, .int .i64 e, .int .i64 0, .int .i64 0, .string ⟨#[]⟩])/\Below w.heap.size w w':=by
 go_enter Tryz.func131,Tryz.ntmps131;go_wp2;refine bodyPost_ret (v:= .agg #[.int .i64 5, .int .i64 e, .int .i64 0, .int .i64 0, .string ⟨#[]⟩]) (by simp[results,Tryz.results131,go_sem]) rfl ⟨rfl,?_⟩;first|exact(Below.refl _ _).alloc (Nat.le_refl _) _|exact dN' ((Below.refl _ _).alloc (Nat.le_refl _) _) _ _ _ _ _
theorem tZ' {w:World} {p e:Nat} {logs:Nat->List ByteArray} {sh:Nat->List (Nat×Value)} {st:Mod.Stv} {c:Sv} (r:aN' w p e logs sh st c) (z:Nat) (H:z<=2147483647):
  bn' w (w.setCell ⟨p,1,none⟩ (.int .i64 z)) p z logs sh st c:=by
 have I:∀j,j < 3->(c.lv j).ownBlock≠some p:=fun j hj=>(r.ks.lgs j hj).ne r.ks.blk (by decide);have J:∀j,j < 3->¬ShU (c.nv j) (c.mv j) p:=fun j hj=>(r.ks.shs j hj).ne r.ks.blk (by decide);have hs:=S' w p 1 (.int .i64 z);have D:∀j,j≠1->(c.arr.setIfInBounds 1 (.int .i64 z))[j]? =c.arr[j]? :=fun j hj=>Array.getElem?_setIfInBounds_ne (fun e=>hj e.symm);have h1:1 < c.arr.size:=by rw[r.ks.sz];omega
 refine⟨{c with arr:=c.arr.setIfInBounds 1 (.int .i64 z)},⟨⟨ah' r.ks.blk,by simpa using r.ks.sz,?_,?_,?_,?_,?_,?_,?_,?_,r.ks.are,r.ks.apl,r.ks.aps,r.ks.cnt,H⟩,r.stt.far hs (fun k F h=>r.sep k (.inl h) F),r.rl.far hs (fun g G h=>(r.sepr g G).1 (.inl h)),r.len⟩,hs.mono (fun k _ h=> .inl (.inl h)),fun k F=> .inl F,rfl,rfl⟩
 ·rw[D _ (by omega)];exact r.ks.a0
 ·simp[h1]
 ·intro j hj;rw[D _ (by omega)];exact r.ks.al j hj
 ·intro j hj;rw[D _ (by omega)];exact r.ks.an j hj
 ·intro j hj;rw[D _ (by omega)];exact r.ks.am j hj
 ·rw[D _ (by omega)];exact r.ks.ar
 ·intro j hj;exact(r.ks.lgs j hj).far hs (fun g G h=>I j hj (by rw[G,h]))
 ·intro j hj;exact(r.ks.shs j hj).far hs (fun k F h=>J j hj (by rw[<-h];exact F))
theorem os' (a:Mod.Sk):bc' a a.epoch=a:=by
 unfold bc' dI';rw[if_neg (by omega)]
theorem ot' {sh:Nat->List (Nat×Value)}:dn' [] (fun t=>if t < 3 then []else sh t):=by
 intro t r n c;show ar' (if t < 3 then []else sh t) _= _↔ _;rw[if_pos r];simp[ar']
theorem hv':(Tryz.prog.info? 63).map (·.size)=some 5:=by kernel_rfl
def zFr:Array Value:= #[.int .i64 0, .int .i64 0, .int .i64 0, .int .i64 0, .string ⟨#[]⟩]
structure eC' (w:World) (cs rs:Array Value) (x:World):Prop where
 box:x.heap[w.heap.size]? =some (.cells cs 63 (0,0))
 res:x.heap[w.heap.size+1]? =some (.cells rs 63 (0,0))
 bel:Below w.heap.size w x
theorem eN' (w:World) (r rs:Array Value):eC' w r rs ((w.alloc (.cells r 63)).alloc (.cells rs 63)):=
 ⟨(ca' _ _ _).1,(ca' _ _ _).2.1,(ca' _ _ _).2.2⟩
theorem eC'.lt {w x:World} {r rs:Array Value} (h:eC' w r rs x):w.heap.size+1 < x.heap.size:=lt_of_block h.res
theorem eC'.below {w x y:World} {z rs:Array Value} (h:eC' w z rs x) (r:Below x.heap.size x y):eC' w z rs y:=
 ⟨(r.block _ (by have:=h.lt;omega)).trans h.box,(r.block _ h.lt).trans h.res,h.bel.trans (r.mono h.bel.size)⟩
theorem eC'.drewN {w x:World} {r rs:Array Value} (h:eC' w r rs x) (n:Nat):eC' w r rs (x.drewN n):=h.below (below_drewN (Below.refl _ _) n)
theorem jl' {w:World} {p:Nat} {a:Mod.Sk} {sh:Nat->List (Nat×Value)} {st:Mod.Stv} {c:Sv} (I:aN' w p a.epoch a.logs sh st c) (e:Nat) (s q:Int) (b:ByteArray) (ad:e≠a.epoch):
  Calls Tryz.prog 88 #[A' p, .agg #[.int .i64 3, .int .i64 e, .int .i64 s, .int .i64 q, .string b]] w fun U r=>
   U= .returned (.tuple #[.agg #[.int .i64 5, .int .i64 (max e a.epoch:Nat), .int .i64 0, .int .i64 0, .string ⟨#[]⟩], .int .i64 0])/\Below w.heap.size w r:=by
 have c1:w.cell? ⟨p,1,none⟩=some (.int .i64 a.epoch):=by rw[t' I.ks.blk,I.ks.a1]
 have V:=lt_of_block I.ks.blk;obtain⟨ep,X⟩:∃ep,ep=a.epoch:=⟨_,rfl⟩;rw[<-X]at c1 ad ⊢;have ax:((e:Int) != (ep:Int))=true:=by simp;omega
 obtain⟨m,Y⟩:∃m,m=max e ep:=⟨_,rfl⟩;have ay:max (e:Int) (ep:Int)=(m:Int):=by omega
 rw[<-Y];have ah:=fun y=>y' (jV' m y);have Z:=y' (eN' w #[.int .i64 3, .int .i64 e, .int .i64 s, .int .i64 q, .string b] zFr);clear I X Y;unfold A';go_enter Tryz.func88,Tryz.ntmps88;go_upto_region 1 with fail;refine H' (eC' w #[.int .i64 3, .int .i64 e, .int .i64 s, .int .i64 q, .string b] zFr) (i' Z) ?_;clear Z;intro x D;have O:=t' (i:=1) D.box;simp at O;have aa:=(D.bel.cell (p:=⟨p,1,none⟩) V).trans c1;have F:=y' D;clear D;go_quiet (fail);go_upto_region 2 with fail;refine H' (eC' w #[.int .i64 3, .int .i64 e, .int .i64 s, .int .i64 q, .string b] zFr) ((i' F).drewN _) ?_;clear F O aa;intro az D;have F:=y' D;have aA:=D.lt;clear D;refine Z' (by kernel_rfl)
  [fun v _=>v= .pointer (some ⟨w.heap.size,1,none⟩),fun v _=>v= .int .i64 e,fun v _=>v= .pointer (some ⟨p,0,none⟩),fun v _=>v= .pointer (some ⟨p,0,none⟩),fun v _=>v= .pointer (some ⟨p,1,none⟩),fun v _=>v= .int .i64 ep,fun v _=>v= .int .i64 m,
   fun v _=>v= .agg #[.int .i64 5, .int .i64 m, .int .i64 0, .int .i64 0, .string ⟨#[]⟩],fun _ r=>r.heap[w.heap.size+1]? =some (.cells #[.int .i64 5, .int .i64 m, .int .i64 0, .int .i64 0, .string ⟨#[]⟩] 63 (0,0)),fun v _=>v= .int .i64 0]
  [[(3,none)],[(15,some 0)],[(0,none)],[(17,some 2)],[(18,some 3)],[(19,some 4)],[(16,some 1),(20,some 5)],[(21,some 6)],[(4,none),(22,some 7)],[]] [some 15,some 16,some 17,some 18,some 19,some 20,some 21,some 22,none,some 5] [false,false,false,false,false,true,false,false,false,false,false,false,false,false,false,true,true,true,true,true,true,true,true,false,false,false,false,false,false,false,false,false,false,false,false,false,false,false,false,false,false,false,false,false,false,false,false,false,false,false,false,false]
  [(8,fun k=>k=w.heap.size+1)]
  (by kernel_rfl) (by kernel_rfl) (by kernel_rfl) (by kernel_rfl) (by kernel_rfl) ?_ ?_ ?_ ?_
 ·repeat' (first|exact O' _|exact bh' _ _|exact trivial|apply And.intro)
 ·repeat' (first|exact trivial|exact .inl rfl|exact .inr (.inr (an' _ _))|apply And.intro)
 ·refine⟨?_,?_,?_,?_,?_,?_,?_,?_,?_,?_,trivial⟩;all_goals
   intro a' r G J;have ab:=G.blk (i' F).box (ae' (by intro q z;simp at z;subst z;intro (h:w.heap.size=w.heap.size+1);omega));have O:r.cell? ⟨w.heap.size,1,none⟩=some (.int .i64 e):=t' (i:=1) ab;have aa:r.cell? ⟨p,1,none⟩=some (.int .i64 ep):=by have ai:=G.rest p (by omega) (ae' (by intro q z;simp at z;subst z;intro (h:p=w.heap.size+1);omega));have:=((i' F).bel.cell (p:=⟨p,1,none⟩) V).trans c1;unfold World.cell? at this ⊢;simp only at this ⊢;rw[ai];exact this
   clear ab;simp only[M',List.getD_cons_zero,List.getD_cons_succ,Array.getD_eq_getD_getElem?]at J;try simp at J
  iterate 7
   ·clear G;go_simp;exact⟨_,rfl,Far.refl _ _,rfl⟩
  ·clear G;go_simp;refine(i' (ah r)).mono ?_;rintro U aB ⟨rfl,aj⟩;exact⟨_,rfl,C' aj,rfl⟩
  ·have M:=G.blk (i' F).res (by rintro⟨q,z,g1,g2,aC⟩;simp at z;subst z;exact g1 rfl);clear G;rw[if_pos (by rfl)];refine wp_store_row 63 (.tmp 4) (.tmp 22) rfl (w.heap.size+1) #[.int .i64 5, .int .i64 m, .int .i64 0, .int .i64 0, .string ⟨#[]⟩] (by simp[Act.eval,J]) (by simp[Act.eval,J]) 63 _ M (by rw[hv'];rfl) rfl (by rw[Array.all_eq_true_iff_forall_mem];intro u hu;simp at hu;rcases hu with rfl|rfl|rfl|rfl <;> rfl) ?_;exact⟨_,rfl,aj' (.head _) (aU' _ _ _),setRow_heap _ _ _ _ _ _ M⟩
  ·clear G;go_simp;exact⟨_,rfl,Far.refl _ _,rfl⟩
 ·intro f r hF Q;have H:=Q.2.2.2.2.2.2.2.2.1;have ak:=Q.2.2.2.2.2.2.2.2.2.1;have M:r.cell? ⟨w.heap.size+1,0,none⟩=some (.int .i64 5):=t' (i:=0) H;have ao:r.cell? ⟨w.heap.size+1,1,none⟩=some (.int .i64 m):=t' (i:=1) H;have ap:r.cell? ⟨w.heap.size+1,2,none⟩=some (.int .i64 0):=t' (i:=2) H;have aq:r.cell? ⟨w.heap.size+1,3,none⟩=some (.int .i64 0):=t' (i:=3) H;have au:r.cell? ⟨w.heap.size+1,4,none⟩=some (.string ⟨#[]⟩):=t' (i:=4) H;have ac:Below w.heap.size w r:=(i' F).bel.trans (hF.below (B:=w.heap.size) (by omega) (fun k aD h=>by obtain⟨q,z,h⟩:=h;simp at z;subst z;have h:k=w.heap.size+1:=h;omega));have av:=y' ac;clear Q hF H ac;simp only[Y',ak];generalize f 15=aE;generalize f 16=aF;generalize f 17=aG;generalize f 18=aH;generalize f 19=aI;generalize f 20=aJ;generalize f 21=aK;generalize f 22=aL;go_simp;go_wp2;exact bodyPost_ret (v:= .tuple #[.agg #[.int .i64 5, .int .i64 m, .int .i64 0, .int .i64 0, .string ⟨#[]⟩], .int .i64 0]) (by simp[results,Tryz.results88,go_sem,M,ao,ap,aq,au]) rfl ⟨rfl,i' av⟩
theorem ua' (a b c:Int):(⟨(Wire.le4 a++Wire.le4 b++Wire.le4 c).toArray⟩:ByteArray)=ef' a++ef' b++ef' c:=by
 rw[<-pw']
theorem ks' {w:World} {p:Nat} {a:Mod.Sk} {sh:Nat->List (Nat×Value)} {st:Mod.Stv} {c:Sv} (z:aN' w p a.epoch a.logs sh st c) (e:Nat) (s q:Int) (b:ByteArray) (H:e < a.epoch):
  Calls Tryz.prog 87 #[A' p, .agg #[.int .i64 1, .int .i64 e, .int .i64 s, .int .i64 q, .string b]] w fun I U=>
   I= .returned (.tuple #[.agg #[.int .i64 5, .int .i64 a.epoch, .int .i64 0, .int .i64 0, .string ⟨#[]⟩], .int .i64 0])/\Below w.heap.size w U:=by
 have c1:w.cell? ⟨p,1,none⟩=some (.int .i64 a.epoch):=by rw[t' z.ks.blk,z.ks.a1]
 have G:=lt_of_block z.ks.blk;obtain⟨ep,J⟩:∃ep,ep=a.epoch:=⟨_,rfl⟩;rw[<-J]at c1 H ⊢;have ah:(e:Int) < (ep:Int):=by omega
 have V:=fun y=>y' (jV' ep y);have M:=y' (eN' w #[.int .i64 1, .int .i64 e, .int .i64 s, .int .i64 q, .string b] zFr);clear z J H;unfold A';go_enter Tryz.func87,Tryz.ntmps87;go_upto_region 1 with fail;refine H' (eC' w #[.int .i64 1, .int .i64 e, .int .i64 s, .int .i64 q, .string b] zFr) (i' M) ?_;clear M;intro x r;have O:=t' (i:=1) r.box;simp at O;have Q:=(r.bel.cell (p:=⟨p,1,none⟩) G).trans c1;have D:=y' r;clear r;go_quiet (fail);go_upto_region 2 with fail;refine H' (eC' w #[.int .i64 1, .int .i64 e, .int .i64 s, .int .i64 q, .string b] zFr) ((i' D).drewN _) ?_;clear D O Q;intro X r;have Q:=(r.bel.cell (p:=⟨p,1,none⟩) G).trans c1;have D:=y' r;have ai:p < X.heap.size:=Nat.lt_of_lt_of_le G r.bel.size;clear r;go_wp2_with (go_at_call 131;refine(i' (V _)).mono ?_;rintro I y ⟨rfl,F⟩;have r:=(i' D).below F;have Y:=t' (i:=0) r.res;have Z:=t' (i:=1) r.res;have aa:=t' (i:=2) r.res;have ab:=t' (i:=3) r.res;have ac:=t' (i:=4) r.res;have aj:=I' (i:=0) r.res;have ak:=I' (i:=1) r.res;have ao:=I' (i:=2) r.res;have ap:=I' (i:=3) r.res;have aq:=I' (i:=4) r.res;simp[zFr]at Y Z aa ab ac;have ad:=y' r;clear r F);refine bodyPost_ret (v:= .tuple #[.agg #[.int .i64 5, .int .i64 ep, .int .i64 0, .int .i64 0, .string ⟨#[]⟩], .int .i64 0]) (by simp[results,Tryz.results87,go_sem, *]) rfl ⟨rfl,?_⟩;have F:=(i' ad).bel;refine((((F.setCell (p:=⟨w.heap.size+1,0,none⟩) (by simp) _).setCell (p:=⟨w.heap.size+1,1,none⟩) (by simp) _).setCell (p:=⟨w.heap.size+1,2,none⟩) (by simp) _).setCell (p:=⟨w.heap.size+1,3,none⟩) (by simp) _).setCell (p:=⟨w.heap.size+1,4,none⟩) (by simp) _
theorem eD' {B g:Nat} {r:World} {v:Value} {l:List UInt8} (z:ax' B r v l) (D:B<=g) (F:r.heap[g]? =some (.cells #[v] 48 (0,0))):Q' B r (.slice (some ⟨g,0,none⟩) 1 1) [v] [⟨l.toArray⟩] (fun _=>False):=by
 refine⟨rfl,⟨by simp, .inr ⟨g,1,_,rfl,D,F,by simp,by unfold maxLen;omega,by simp,by simp⟩⟩,?_,?_,fun _ _ h=>h⟩
 ·intro j u hj;cases j with
  |zero=>simp at hj;subst hj;exact z
  |succ j=>simp at hj
 ·intro i j u H hi hj G;cases i with
  |zero=>
   cases j with
   |zero=>exact absurd rfl G
   |succ j=>simp at hj
  |succ i=>simp at hi
theorem bM' (B:Nat) (r:World):Q' B r (.slice none 0 0) [] [] (fun _=>False):=
 ⟨rfl,World.ownsRow_nil _ _ _ _,fun j v hj=>by simp at hj,fun i j u v hi=>by simp at hi,fun _ _ h=>h⟩
theorem io' (n:Nat) (r:n<=2147483647):Wire.proper 5 n 0 0 ⟨#[]⟩=true:=by
 simp[Wire.proper,Wire.isNum,ByteArray.size];omega
theorem bK' {l:List UInt8} (z:Wire.reads l=true):∃ (k:Int) (e s q:Nat) (b:ByteArray),Wire.kindOf l=k/\Wire.epochOf l=e/\Wire.streamOf l=s/\Wire.seqOf l=q/\Wire.bodyOf l=b/\e<=2147483647/\s < 3/\q<=2147483647/\b.size<=20:=by
 have r:=z;unfold Wire.reads at r;rw[Bool.and_eq_true]at r;obtain⟨_,h2,h3,h4,h5⟩:=ci' r.2;exact⟨_,(Wire.epochOf l).toNat,(Wire.streamOf l).toNat,(Wire.seqOf l).toNat,_,rfl,by omega,by omega,by omega,rfl,by omega,by omega,by omega,h5⟩
theorem db' {a:Mod.Sk} {l:List UInt8} (r:Wire.reads l=true) {k:Int} {e s q:Nat} {b:ByteArray} (h1:Wire.kindOf l=k) (h2:Wire.epochOf l=e) (h3:Wire.streamOf l=s) (h4:Wire.seqOf l=q) (h5:Wire.bodyOf l=b):
  am' a l=(0,bI' a k e s q b):=by
 unfold am';rw[r,h1,h2,h3,h4,h5];rfl
theorem eO' {a:Mod.Sk} {l:List UInt8} (r:Wire.reads l=false):am' a l=(1,a,[]):=by
 unfold am';rw[r];rfl
theorem ou' {a:Mod.Sk} (r:aR' a) (k:Int) (e s q:Nat) (b:ByteArray) (hs:s < 3) (z:b.size<=20):aR' (bI' a k e s q b).1:=by
 unfold bI';split
 ·split
  ·exact r
  ·exact om' r _
 ·split
  ·rename_i h3;subst h3;split
   ·rename_i D;rw[D];exact on' r s q b hs z
   ·exact r
  ·exact r
theorem fX' {a:Mod.Sk} (z:aR' a) (l:List UInt8):aR' (am' a l).2.1:=by
 cases r:Wire.reads l
 ·rw[eO' r];exact z
 ·obtain⟨k,e,s,q,b,h1,h2,h3,h4,h5,g1,g2,F,D⟩:=bK' r;rw[db' r h1 h2 h3 h4 h5];exact ou' z k e s q b g2 D
section
variable {w:World} {p:Nat} {g0:Nat->Nat} {free:List Nat} {sh:Nat->List (Nat×Value)} {st:Mod.Stv} {c:Av} {a a2:Mod.Ag} {pl:Nat->List Nat}
end
theorem hx' {a:Mod.Ag} {l:List UInt8} (r:Wire.reads l=true) {k:Int} {e s q:Nat} {b:ByteArray} (h1:Wire.kindOf l=k) (h2:Wire.epochOf l=e) (h3:Wire.streamOf l=s) (h4:Wire.seqOf l=q) (h5:Wire.bodyOf l=b):
  aB' a l=(0,a.deliver k e s q b):=by
 unfold aB';rw[r,h1,h2,h3,h4,h5];rfl
theorem jm' {a:Mod.Ag} {l:List UInt8} (r:Wire.reads l=false):aB' a l=(1,a):=by
 unfold aB';rw[r];rfl
theorem ip' {l:List UInt8} (r:Wire.reads l=true):Wire.proper (Wire.kindOf l) (Wire.epochOf l) (Wire.streamOf l) (Wire.seqOf l) (Wire.bodyOf l)=true:=by
 unfold Wire.reads at r;rw[Bool.and_eq_true]at r;exact r.2
section
variable {w:World} {p:Nat} {g0:Nat->Nat} {free:List Nat} {sh:Nat->List (Nat×Value)} {st:Mod.Stv} {c:Av} {a:Mod.Ag} {pl:Nat->List Nat}
end
theorem mE' {w:World} {p e:Nat} {logs:Nat->List ByteArray} {sh:Nat->List (Nat×Value)} {st:Mod.Stv} {c:Sv} (r:aN' w p e logs sh st c):
  Calls Tryz.prog 55 #[A' p] w fun z w'=>z= .returned (.int .i64 e)/\w'=w:=by
 have c1:w.cell? ⟨p,1,none⟩=some (.int .i64 e):=by rw[t' r.ks.blk,r.ks.a1]
 clear r;unfold A';go_enter Tryz.func55,Tryz.ntmps55;go_wp2;go_ret;exact⟨rfl,rfl⟩
theorem mF' {w:World} {v:Value} {l:List ByteArray} (h:as' w 9 1 v l.length (aV' l)) (hl:l.length<=1000):
  Calls Tryz.prog 72 #[v] w fun z w'=>∃r,z= .returned r/\w'.ownsRow w.heap.size 9 1 r l.length (aV' l)/\Below w.heap.size w w':=by
 obtain⟨_,h2⟩:=h;rcases h2 with ⟨rfl,F⟩|⟨g,o,cap,G,rfl,H,M,O,hs,I⟩
 ·obtain rfl:l=[]:=List.length_eq_zero_iff.1 F;refine(Tryz.slices_Clone_string_nil 0 0 w).mono ?_;rintro z y ⟨rfl,rfl⟩;exact⟨_,rfl,World.ownsRow_nil _ _ _ _,Below.refl _ _⟩
 ·refine(Tryz.slices_Clone_string g o l.length cap l w (Nat.le_refl _) (by omega) (fun j hj=>?_)).mono ?_
  ·have h0:((G.toList.drop o).take (l.length * 1))[j]? =(aV' l)[j]? :=by rw[I]
   rw[List.getElem?_take,if_pos (by omega),List.getElem?_drop]at h0;rw[t' H,<-Array.getElem?_toList,h0];simp[aV',hj,List.getD_eq_getElem?_getD]
  ·rintro z y ⟨r,rfl,D,_,J⟩;exact⟨r,rfl,by rw[List.take_of_length_le (Nat.le_refl _)]at D;exact D,J⟩
def pU' (s:Nat) (fv rv:Value):Array Value:= #[A' s, .int .i64 0, .int .i64 0, .int .i64 0,
 .slice none 0 0, .map none, .slice none 0 0, .map none, .slice none 0 0, .map none, .slice none 0 0, .map none, .slice none 0 0, .map none, .slice none 0 0, .map none, .slice none 0 0, .map none, .slice none 0 0, .map none, .slice none 0 0, .map none,
 fv, .int .i64 0, .bool false, .bool false,rv]
theorem np' (s:Nat) (fv rv:Value):(∀i,i < 3->(pU' s fv rv)[1+i]? =some (.int .i64 0))/\∀k,k < 9->(pU' s fv rv)[4+k * 2]? =some (.slice none 0 0)/\(pU' s fv rv)[4+k * 2+1]? =some (.map none):=by
 refine⟨fun i hi=>?_,fun k r=>?_⟩
 ·obtain rfl|rfl|rfl:i=0\/i=1\/i=2:=by omega
  all_goals rfl
 ·obtain rfl|rfl|rfl|rfl|rfl|rfl|rfl|rfl|rfl:k=0\/k=1\/k=2\/k=3\/k=4\/k=5\/k=6\/k=7\/k=8:=by omega
  all_goals exact⟨rfl,rfl⟩
def ag0:Mod.Ag:={epoch:=1,ticks:=0,welcome:=false,fenced:=false,fl:=fun _=>{base:=0,kept:=[],held:=[]}}
theorem ub' {g:Nat->Nat} {free:List Nat} {sh:Nat->List (Nat×Value)} {a:Mod.Ag} {op:Nat} {G:Nat->List Nat} (r:aQ' a op g free sh G) {i:Nat} (hi:i < 3) {k:Nat} {x:ByteArray×Nat} (Q:(a.fl i).kept[k]? =some x) {t:Nat} (V:t≠0):
  aQ' {a with fl:=Mod.upd a.fl i {a.fl i with kept:=(a.fl i).kept.set k (x.1,t)}} op g free (fun j=>if j=i * 3+1 then bb' (sh (i * 3+1)) ((a.fl i).base+1+k) (dD' t)else sh j) G:=by
 obtain⟨z,D⟩:∃z,z=({a.fl i with kept:=(a.fl i).kept.set k (x.1,t)}:Mod.Flow):=⟨_,rfl⟩;have H:z.base=(a.fl i).base:=by rw[D]
 have X:z.held=(a.fl i).held:=by rw[D]
 have I:z.kept=(a.fl i).kept.set k (x.1,t):=by rw[D]
 have hl:z.kept.length=(a.fl i).kept.length:=by rw[I];simp
 have U:k < (a.fl i).kept.length:=(List.getElem?_eq_some_iff.1 Q).1;rw[<-D];clear D;have F:∀j,Mod.upd a.fl i z j=if j=i then z else a.fl j:=fun j=>rfl
 refine⟨r.ep,fun j hj=>?_,fun j hj=>?_,fun j hj=>?_,fun j hj n=>?_,fun j hj=>?_,fun j hj n=>?_,fun j hj=>?_,fun j hj=>?_,r.nd,r.lt,?_⟩
 ·show g j=(Mod.upd a.fl i z j).base;rw[F];by_cases e:j=i
  ·rw[if_pos e,H,e];exact r.bs i hi
  ·rw[if_neg e];exact r.bs j hj
 ·show(G j).length=(Mod.upd a.fl i z j).kept.length;rw[F];by_cases e:j=i
  ·rw[if_pos e,hl,e];exact r.pn i hi
  ·rw[if_neg e];exact r.pn j hj
 ·show(if j * 3=i * 3+1 then _ else sh (j * 3))=aE' (Mod.upd a.fl i z j).base (Mod.upd a.fl i z j).kept (G j);rw[if_neg (by omega),F];by_cases e:j=i
  ·rw[if_pos e,H,e,r.kp i hi];refine fd' _ _ _ _ ?_;rw[I,List.map_set];refine(List.ext_getElem? fun n=>?_).symm;rw[List.getElem?_set];by_cases M:k=n
   ·subst M;rw[if_pos rfl,if_pos (by simpa using U),List.getElem?_map,Q];rfl
   ·rw[if_neg M]
  ·rw[if_neg e];exact r.kp j hj
 ·show ar' (if j * 3+1=i * 3+1 then _ else sh (j * 3+1)) _=cS' (Mod.upd a.fl i z j) n;rw[F];by_cases e:j=i
  ·subst e;rw[if_pos rfl,if_pos rfl,gp'];have h0:=r.sn j hj n;unfold ko';by_cases M:n=(a.fl j).base+1+k
   ·rw[if_pos (by omega)];unfold cS';rw[if_neg (by omega),H,I,show n - (a.fl j).base - 1=k by omega,List.getElem?_set,if_pos rfl,if_pos U];show _=if t=0 then none else some (dD' t)
    rw[if_neg V]
   ·rw[if_neg (by omega),h0];unfold cS';rw[H];by_cases J:n<=(a.fl j).base
    ·rw[if_pos J,if_pos J]
    ·rw[if_neg J,if_neg J,I,List.getElem?_set,if_neg (by omega)]
  ·rw[if_neg (by omega),if_neg e];exact r.sn j hj n
 ·show lb' (if j * 3+1=i * 3+1 then _ else sh (j * 3+1));by_cases e:j=i
  ·subst e;rw[if_pos rfl];intro y O;rcases ic' O with rfl|O
   ·exact⟨t,rfl⟩
   ·exact r.si j hj y O
  ·rw[if_neg (by omega)];exact r.si j hj
 ·show(ar' (if j * 3+2=i * 3+1 then _ else sh (j * 3+2)) _).isSome=(Mod.upd a.fl i z j).held.contains n;rw[if_neg (by omega),F];by_cases e:j=i
  ·rw[if_pos e,X,e];exact r.hd i hi n
  ·rw[if_neg e];exact r.hd j hj n
 ·show og' (if j * 3+2=i * 3+1 then _ else sh (j * 3+2));rw[if_neg (by omega)];exact r.hu j hj
 ·show(if j * 3+2=i * 3+1 then _ else sh (j * 3+2)).length<=3;rw[if_neg (by omega)];exact r.hl j hj
 ·have h:=r.sum;have h2:=ij' (a:=a) hi z;omega
section
variable {w x:World} {p:Nat} {g:Nat->Nat} {tk:Nat} {wel fen:Bool} {free:List Nat} {sh sh2:Nat->List (Nat×Value)} {st:Mod.Stv} {c c2:Av}
theorem ww' {i:Nat} {I:List (Nat×Value)} (G:aC' w p g tk wel fen free sh st c) (h:cd' w x p (4+i * 2) 116 c.arr (c.nv i) (c.mv i) I)
  (F:aC' x p g tk wel fen free sh2 st c2):∀j,j < 9->j≠i->c2.nv j=c.nv j/\c2.mv j=c.mv j:=by
 obtain⟨⟨nv',mv',S,_,_⟩,_⟩:=h;have r:=S.blk;rw[F.ks.blk]at r;injection r with r;injection r with r _ _;intro j hj J;have H:∀q,q≠4+i * 2->q≠4+i * 2+1->c2.arr[q]? =c.arr[q]? :=fun q h1 h2=>by rw[r,Array.getElem?_setIfInBounds_ne (by omega),Array.getElem?_setIfInBounds_ne (by omega)]
 have z:=F.ks.an j hj;have D:=F.ks.am j hj;rw[H _ (by omega) (by omega),G.ks.an j hj]at z;rw[H _ (by omega) (by omega),G.ks.am j hj]at D;exact⟨by injection z with z;exact z.symm,by injection D with D;exact D.symm⟩
end
section
variable {w:World} {p:Nat} {g:Nat->Nat} {free:List Nat} {sh:Nat->List (Nat×Value)} {st:Mod.Stv} {c:Av} {a:Mod.Ag} {pl:Nat->List Nat}
theorem ov' (n:Nat) (r:n<=2147483647):Wire.proper 1 n 0 0 ⟨#[]⟩=true:=by
 simp[Wire.proper,Wire.isNum,ByteArray.size];omega
end
def aJ' (a:Mod.Ag) (i tk k:Nat):Mod.Ag:={a with fl:=Mod.upd a.fl i {a.fl i with kept:=(Mod.sendTo a.epoch i (a.fl i) tk k).1}}
theorem dK' (a:Mod.Ag) (i tk k:Nat):(aJ' a i tk k).fl i={a.fl i with kept:=(Mod.sendTo a.epoch i (a.fl i) tk k).1}:=by
 unfold aJ' Mod.upd;simp
theorem pV' (a:Mod.Ag) (i tk:Nat):aJ' a i tk 0=a:=by
 unfold aJ';have:Mod.upd a.fl i {a.fl i with kept:=(Mod.sendTo a.epoch i (a.fl i) tk 0).1}=a.fl:=by
  funext t;unfold Mod.upd;split
  ·rename_i e;rw[e];rfl
  ·rfl
 rw[this]
theorem pW' {a:Mod.Ag} {i tk k:Nat} (r:k < (a.fl i).kept.length) (hd:Mod.due (a.fl i) tk k (a.fl i).kept[k].2=false):aJ' a i tk (k+1)=aJ' a i tk k:=by
 unfold aJ';rw[en' r hd]
theorem lp' {a:Mod.Ag} {i tk k:Nat} (r:k < (a.fl i).kept.length):((aJ' a i tk k).fl i).kept[k]? =some (a.fl i).kept[k]:=by
 rw[dK'];show(Mod.sendTo a.epoch i (a.fl i) tk k).1[k]? = _;rw[kX' _ _ _ _ _ _ (Nat.le_refl _),List.getElem?_eq_getElem r]
theorem rY' (a:Mod.Ag) (i tk k:Nat):((aJ' a i tk k).fl i).kept.length=(a.fl i).kept.length:=by
 rw[dK'];exact gZ' _ _ _ _ _
theorem rZ' (a:Mod.Ag) (i tk k t j s:Nat):Mod.due ((aJ' a i tk k).fl i) t j s=Mod.due (a.fl i) t j s:=by
 rw[dK'];rfl
theorem jW' (a:Mod.Ag) (i tk k:Nat):((aJ' a i tk k).fl i).base=(a.fl i).base:=by rw[dK']
theorem pX' {g:Nat->Nat} {free:List Nat} {sh:Nat->List (Nat×Value)} {a:Mod.Ag} {op:Nat} {r:Nat->List Nat} {i tk k:Nat} (D:aQ' (aJ' a i tk k) op g free sh r) (hi:i < 3) (z:k < (a.fl i).kept.length) (hd:Mod.due (a.fl i) tk k (a.fl i).kept[k].2=true) (F:tk≠0):
  aQ' (aJ' a i tk (k+1)) op g free (fun j=>if j=i * 3+1 then bb' (sh (i * 3+1)) ((a.fl i).base+1+k) (dD' tk)else sh j) r:=by
 have h:=ub' D hi (lp' (tk:=tk) z) F;rw[jW']at h;have e:aJ' a i tk (k+1)={aJ' a i tk k with fl:=Mod.upd (aJ' a i tk k).fl i {(aJ' a i tk k).fl i with kept:=((aJ' a i tk k).fl i).kept.set k ((a.fl i).kept[k].1,tk)}}:=by
  rw[dK'];unfold aJ';rw[eo' z hd];have:∀ (f:Nat->Mod.Flow) (x y:Mod.Flow),Mod.upd (Mod.upd f i x) i y=Mod.upd f i y:=fun f x y=>by funext t;unfold Mod.upd;split <;> rfl
  simp only[this]
 rw[e];exact h
theorem pY' {a:Mod.Ag} {i tk k:Nat} (h:k=min 4 (a.fl i).kept.length):aJ' a i tk 4=aJ' a i tk k:=by
 unfold aJ';rw[jP' (i:=k) (by omega) (by omega)]
def bt' (a:Mod.Ag) (t s:Nat):Mod.Ag:={a with ticks:=t,fl:=Mod.sendFl a.epoch t a.fl s}
theorem gx' (a:Mod.Ag) (t s:Nat):(bt' a t s).fl s=a.fl s:=by
 unfold bt' Mod.sendFl;simp
theorem pZ' (a:Mod.Ag) (t s:Nat):aJ' (bt' a t s) s t 4=bt' a t (s+1):=by
 unfold aJ';rw[gx'];have:Mod.upd (bt' a t s).fl s {a.fl s with kept:=(Mod.sendTo (bt' a t s).epoch s (a.fl s) t 4).1}=Mod.sendFl a.epoch t a.fl (s+1):=by
  funext j;unfold Mod.upd bt' Mod.sendFl;simp only
  by_cases e:j=s
  ·subst e;rw[if_pos rfl,if_pos (by omega)]
  ·rw[if_neg e];by_cases h:j < s
   ·rw[if_pos h,if_pos (by omega)]
   ·rw[if_neg h,if_neg (by omega)]
 rw[this];rfl
theorem qa' (a:Mod.Ag) (t:Nat):bt' a t 0={a with ticks:=t}:=by
 unfold bt';have:Mod.sendFl a.epoch t a.fl 0=a.fl:=by funext j;unfold Mod.sendFl;rw[if_neg (by omega)]
 rw[this]
theorem nq' {a:Mod.Ag} (r:a.fenced=false) (z:a.welcome=true):a.tick=(bt' a (a.ticks+1) 3,Mod.sendOut a.epoch (a.ticks+1) a.fl 3):=by
 unfold Mod.Ag.tick;rw[if_neg (by rw[r];decide),if_neg (by rw[z];decide)];rfl
theorem dX' (k e s q:Int) (b:List UInt8):(Wire.bytes k e s q b).length=15+b.length:=Wire.length_bytes k e s q b
theorem sa' (n:Nat):(em' n).data.toList.length=15:=by
 unfold em';simp[dX']
theorem vm' (a:Mod.Sk) (e:Nat):(eM' a e).data.toList.length=27:=by
 unfold eM';simp[dX',gY',ef']
theorem vn' (a:Mod.Sk) (k e:Int) (s r:Nat) (b:ByteArray):(ih' a k e s r b).data.toList.length=16:=by
 unfold ih';simp[dX',ackBody]
theorem mG' (a:Mod.Sk) (k e:Int) (s q:Nat) (b:ByteArray):(bI' a k e s q b).2.length<=1/\∀x∈ (bI' a k e s q b).2,x.data.toList.length<=27:=by
 have h1:∀c:ByteArray,c.data.toList.length<=27->([c]:List ByteArray).length<=1/\∀x∈ ([c]:List ByteArray),x.data.toList.length<=27:=fun c h=>⟨by simp,fun x r=>by rw[List.mem_singleton]at r;rw[r];exact h⟩;unfold bI';repeat' split
 all_goals first
  |exact h1 _ (by rw[sa'];omega)
  |exact h1 _ (by rw[vm'];omega)
  |exact h1 _ (by rw[vn'];omega)
  |exact⟨by simp,fun x r=>by cases r⟩
theorem fh' (a:Mod.Sk) (l:List UInt8):(am' a l).2.2.length<=1/\∀x∈ (am' a l).2.2,x.data.toList.length<=27:=by
 unfold am';split
 ·exact mG' _ _ _ _ _ _
 ·simp
theorem Q'.keep {B:Nat} {w x:World} {lv:Value} {fs:List Value} {D:List ByteArray} {F:Nat->Prop} (h:Q' B w lv fs D F) (G:∀k,(lv.ownBlock=some k\/pB' fs fs.length k)->x.heap[k]? =w.heap[k]?):Q' B x lv fs D F:=
 ⟨h.len,R' h.row (fun k r=>G k (.inl r)),fun j v z=>R' (h.each j v z) (fun k r=>G k (.inr ⟨j,(List.getElem?_eq_some_iff.1 z).1,v,z,r⟩)),h.apart,h.clear⟩
theorem Q'.lt {B:Nat} {w:World} {lv:Value} {fs:List Value} {r:List ByteArray} {z:Nat->Prop} (h:Q' B w lv fs r z):∀k,(lv.ownBlock=some k\/pB' fs fs.length k)->B<=k/\k < w.heap.size:=by
 rintro k (h1|⟨j,_,v,h1,h2⟩)
 ·exact World.ownsRow.lt h.row k h1
 ·exact World.ownsRow.lt (h.each j v h1) k h2
def eE' (fv:Value) (fs:List Value) (k:Nat):Prop:=fv.ownBlock=some k\/pB' fs fs.length k
theorem Q'.apartU {B:Nat} {w:World} {lv:Value} {fs:List Value} {r:List ByteArray} {z U':Nat->Prop} (h:Q' B w lv fs r z) (D:∀k,(lv.ownBlock=some k\/pB' fs fs.length k)->¬U' k):Q' B w lv fs r U':=
 ⟨h.len,h.row,h.each,h.apart,D⟩
structure cr' (w:World) (g0 p i:Nat) (c:Av) (st:Mod.Stv) (g:Nat->Nat) (free:List Nat) (pl:Nat->List Nat) (F:List ByteArray) (A:Mod.Ag) (W:World):Prop where
 h0:W.heap[g0]? =some (.cells #[.pointer (some ⟨p,0,none⟩)] 74 (0,0))
 h1:W.heap[g0+1]? =some (.cells #[.int .i64 i] 3 (0,0))
 h3:W.heap[g0+3]? =some (.cells #[.pointer (some ⟨p,4+i * 6,none⟩)] 193 (0,0))
 h4:W.heap[g0+4]? =some (.cells #[.pointer (some ⟨p,4+i * 6,none⟩)] 197 (0,0))
 h5:W.heap[g0+5]? =some (.cells #[.int .i64 4] 3 (0,0))
 mid:∃lv fs c' sh,W.heap[g0+2]? =some (.cells #[lv] 32 (0,0))/\Q' (g0+8) W lv fs F (PaU p c')/\aC' W p g A.ticks A.welcome A.fenced free sh st c'/\aQ' A st.opening g free sh pl/\Far (PaU p c) w W/\
  (∀j,PaU p c' j->PaU p c j\/g0+8<=j)/\c'.s=c.s/\c'.rv=c.rv/\c'.nv (i * 3)=c.nv (i * 3)/\c'.mv (i * 3)=c.mv (i * 3)
 sz:g0+8<=W.heap.size
 lo:∀j,PaU p c j->j < g0
 gw:w.heap.size<=g0
section
variable {w W W':World} {g0 p i:Nat} {c:Av} {st:Mod.Stv} {g:Nat->Nat} {free:List Nat} {pl:Nat->List Nat} {F:List ByteArray} {A:Mod.Ag}
theorem cr'.same2 (h:cr' w g0 p i c st g free pl F A W) (z:pD' (g0+6) W W'):cr' w g0 p i c st g free pl F A W':=by
 obtain⟨lv,fs,G,sh,M,H,O,Q,U,I,V,X,Y,Z⟩:=h.mid;have r:∀k,k≠g0+6->k≠g0+7->W'.heap[k]? =W.heap[k]? :=fun k h1 h2=>z.rest k h1 (by omega);have hF:Far (fun k=>k=g0+6\/k=g0+7) W W':=⟨z.os,z.tape,z.output,by rw[z.size];exact Nat.le_refl _,fun k _ J=>r k (fun e=>J (.inl e)) (fun e=>J (.inr e))⟩;have aa:∀k,PaU p G k->¬ (k=g0+6\/k=g0+7):=fun k D e=>by
  rcases I k D with h1|h1
  ·have:=h.lo k h1;omega
  ·omega
 refine⟨(r _ (by omega) (by omega)).trans h.h0,(r _ (by omega) (by omega)).trans h.h1,(r _ (by omega) (by omega)).trans h.h3,(r _ (by omega) (by omega)).trans h.h4,(r _ (by omega) (by omega)).trans h.h5,
  ⟨lv,fs,G,sh,(r _ (by omega) (by omega)).trans M,H.keep (fun k D=>?_),O.far hF aa,Q,U.trans hF (fun k D e=>by have:=h.gw;omega),I,V,X,Y,Z⟩,by rw[z.size];exact h.sz,h.lo,h.gw⟩
 have:=(H.lt k D).1;exact r k (by omega) (by omega)
theorem cr'.below (h:cr' w g0 p i c st g free pl F A W) (z:Below W.heap.size W W'):cr' w g0 p i c st g free pl F A W':=by
 obtain⟨lv,fs,H,sh,I,G,J,M,O,Q,U,V,X,Y⟩:=h.mid;have Z:=h.sz;have r:∀k,k < W.heap.size->W'.heap[k]? =W.heap[k]? :=fun k D=>z.block k D;exact⟨(r _ (by omega)).trans h.h0,(r _ (by omega)).trans h.h1,(r _ (by omega)).trans h.h3,(r _ (by omega)).trans h.h4,(r _ (by omega)).trans h.h5,
  ⟨lv,fs,H,sh,(r _ (by omega)).trans I,G.keep (fun k D=>r k (G.lt k D).2),J.below z,M,O.trans (C' (E:=PaU p c) z) (fun _ _ h=>h),Q,U,V,X,Y⟩,Nat.le_trans Z z.size,h.lo,h.gw⟩
theorem cr'.iter (h:cr' w g0 p i c st g free pl F A W) (hi:i < 3):of' W (g0+4) p (4+i * 6) 4 (c.nv (i * 3)) (c.mv (i * 3)) (aE' (A.fl i).base (A.fl i).kept (pl i)):=by
 obtain⟨lv,fs,H,sh,I,J,r,G,M,O,Q,U,z,D⟩:=h.mid;have hs:=r.ks.shs (i * 3) (by omega);rw[G.kp i hi,z,D]at hs;refine⟨t' h.h4,t' h.h5,?_,?_,hs⟩
 ·rw[t' r.ks.blk,show 4+i * 6=4+i * 3 * 2 by omega,r.ks.an (i * 3) (by omega),z]
 ·rw[t' r.ks.blk,show 4+i * 6+1=4+i * 3 * 2+1 by omega,r.ks.am (i * 3) (by omega),D]
end
section
variable {w W:World} {g0 p i:Nat} {c:Av} {st:Mod.Stv} {g:Nat->Nat} {free:List Nat} {pl:Nat->List Nat} {F:List ByteArray} {a:Mod.Ag} {tk k:Nat}
theorem cr'.put (h:cr' w g0 p i c st g free pl F (aJ' a i tk k) W) (hi:i < 3) (J:k < (a.fl i).kept.length) (hd:Mod.due (a.fl i) tk k (a.fl i).kept[k].2=true) (ab:tk≠0):
  Calls Tryz.prog 107 #[.pointer (some ⟨p,4+i * 6+2,none⟩), .int .i64 ((a.fl i).base+1+k:Nat), .int .i64 tk] W fun U r=>U= .returned (.tuple #[])/\cr' w g0 p i c st g free pl F (aJ' a i tk (k+1)) r/\r.heap[g0+6]? =W.heap[g0+6]? /\r.heap[g0+7]? =W.heap[g0+7]? /\W.heap.size<=r.heap.size/\∀ (j:Nat) (V:Array Value),W.heap[j]? =some (Obj.cells V 140 (0,0))->r.heap[j]? =W.heap[j]? :=by
 obtain⟨lv,fs,I,sh,ac,G,H,M,ad,O,ah,ai,aj,ak⟩:=h.mid;have ao:(sh (i * 3+1)).length < 1000:=by have h1:=rL' (H.ks.shs (i * 3+1) (by omega)).sorted (M.sn i hi);have h2:=oh' (a:=aJ' a i tk k) hi;have h3:=M.sum;omega
 have X:=vd' (H.shAt (i:=i * 3+1) (by omega)) ao ((a.fl i).base+1+k) tk;rw[show 4+(i * 3+1) * 2=4+i * 6+2 by omega]at X;refine X.mono ?_;rintro U r ⟨rfl,Q⟩;refine⟨rfl,?_⟩;rw[show 4+i * 6+2=4+(i * 3+1) * 2 by omega]at Q;obtain⟨c4,Y,D,Z,ap,aq⟩:=cJ' H (by omega) Q;have aa:=ww' H Q Y (i * 3) (by omega) (by omega);have az:∀k,(k=p\/ShU (I.nv (i * 3+1)) (I.mv (i * 3+1)) k)->PaU p I k:=fun k J=>J.elim (fun h=> .inl (.inl h)) (fun h=> .inl (.inr (.inr ⟨i * 3+1,by omega,h⟩)));have au:=h.sz;have av:∀j,g0<=j->j < g0+8->¬PaU p I j:=fun j h1 h2 hu=>by
  rcases O j hu with h3|h3
  ·have:=h.lo j h3;omega
  ·omega
 have z:∀j,g0<=j->j < g0+8->r.heap[j]? =W.heap[j]? :=fun j h1 h2=>D.rest j (by omega) (av j h1 h2);have ax:=pX' M hi J hd ab;have ay:=(G.keep (x:=r) (fun j hj=>D.rest j (G.lt j hj).2 (G.clear j hj))).apartU (U':=PaU p c4) (fun j hj hu=>by
  rcases Z j hu with h3|h3
  ·exact G.clear j hj h3
  ·have:=(G.lt j hj).2;omega)
 refine⟨?_,z _ (by omega) (by omega),z _ (by omega) (by omega),D.size,fun j V hj=>D.rest j (lt_of_block hj) (cR' H hj (by decide) (by decide) (by decide) (by decide) (by decide) (by decide) (by decide))⟩;refine⟨(z _ (by omega) (by omega)).trans h.h0,(z _ (by omega) (by omega)).trans h.h1,(z _ (by omega) (by omega)).trans h.h3,(z _ (by omega) (by omega)).trans h.h4,(z _ (by omega) (by omega)).trans h.h5,
  ⟨lv,fs,c4,_,(z _ (by omega) (by omega)).trans ac,ay,Y,ax,ad.trans D (fun j hj hu=>(O j hu).elim id (fun h3=>by have:=h.gw;omega)),fun j hu=>?_,ap.trans ah,aq.trans ai,aa.1.trans aj,aa.2.trans ak⟩,Nat.le_trans au D.size,h.lo,h.gw⟩
 rcases Z j hu with h3|h3
 ·exact O j h3
 ·exact .inr (by omega)
end
end Go.Proofs.YtamafdcnbcoegabGreat
