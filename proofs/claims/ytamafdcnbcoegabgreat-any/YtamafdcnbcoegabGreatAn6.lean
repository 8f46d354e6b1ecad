/-
  Part 6 of a proof: K1, K2, K3, K4, K5, K6, MonoKey, K7, K8, K9, K10, K11, K12, K13, K14, K16.
-/
import Derived.Test.YtamafdcnbcoegabGreatAn5
namespace Go.Proofs.YtamafdcnbcoegabGreat
open Go.RowKit
structure KsAt (w:World) (p:Nat) (e:Nat) (logs:Nat→List ByteArray) (sh:Nat→List (Nat × Value)) (arr:Array Value) (s:Nat) (lv nv mv:Nat→Value) (rv:Value):Prop where
 blk:w.heap[p]? = some (.cells arr 125 (0,0))
 sz:arr.size=12
 a0:arr[0]? = some (ptrTo s)
 a1:arr[1]? = some (.int .i64 e)
 al:∀ i,i < 3→arr[2+i * 3]? = some (lv i)
 an:∀ i,i < 3→arr[2+i * 3+1]? = some (nv i)
 am:∀ i,i < 3→arr[2+i * 3+2]? = some (mv i)
 ar:arr[11]? = some rv
 lgs:∀ i,i < 3→RowO w 9 1 (lv i) (logs i).length (strs (logs i))
 shs:∀ i,i < 3→ShelfIs w (nv i) (mv i) (sh i)
 are:∀ i,i < 3→AreS (sh i)
 apl:∀ i j,i < 3→j < 3→i ≠ j→∀ g,(lv i).ownBlock=some g→(lv j).ownBlock ≠ some g
 aps:∀ i j,i < 3→j < 3→i ≠ j→∀ k,ShU (nv i) (mv i) k→¬ ShU (nv j) (mv j) k
 cnt:(logs 0).length+(logs 1).length+(logs 2).length ≤ 120
 ep:e ≤ 2147483647
def KsU (p:Nat) (lv nv mv:Nat→Value) (k:Nat):Prop:=k=p ∨ (∃ i,i < 3∧(lv i).ownBlock=some k) ∨ ∃ i,i < 3∧ShU (nv i) (mv i) k
section
variable {w x:World} {p e s:Nat} {logs:Nat→List ByteArray} {sh:Nat→List (Nat × Value)} {arr:Array Value} {lv nv mv:Nat→Value} {rv:Value}
theorem KsAt.far {E:Nat→Prop} (h:KsAt w p e logs sh arr s lv nv mv rv) (hf:Far E w x) (hE:∀ k,KsU p lv nv mv k→¬ E k):KsAt x p e logs sh arr s lv nv mv rv :=
 ⟨hf.blk h.blk (hE p (.inl rfl)),h.sz,h.a0,h.a1,h.al,h.an,h.am,h.ar,fun i hi => (h.lgs i hi).far hf (fun g hg => hE g (.inr (.inl ⟨i,hi,hg⟩))),fun i hi => (h.shs i hi).far hf (fun k hk => hE k (.inr (.inr ⟨i,hi,hk⟩))),h.are,h.apl,h.aps,h.cnt,h.ep⟩
theorem KsAt.lt (h:KsAt w p e logs sh arr s lv nv mv rv):∀ k,KsU p lv nv mv k→k < w.heap.size:=by
 rintro k (rfl | ⟨i,hi,hk⟩ | ⟨i,hi,hk⟩)
 ·exact lt_of_block h.blk
 ·exact (h.lgs i hi).lt k hk
 ·exact (h.shs i hi).lt k hk
theorem KsAt.logc (h:KsAt w p e logs sh arr s lv nv mv rv) {i:Nat} (hi:i < 3):∃ ad cap,lv i = .slice ad (logs i).length cap∧w.cell? ⟨p,2+i * 3,none⟩=some (.slice ad (logs i).length cap):=by
 obtain ⟨ad,cap,e,_⟩:=(h.lgs i hi).shape
 exact ⟨ad,cap,e,by rw [blk_cell h.blk,h.al i hi,e]⟩
theorem KsAt.loglen (h:KsAt w p e logs sh arr s lv nv mv rv) {i:Nat} (hi:i < 3):(logs i).length ≤ 120:=by
 have:=h.cnt
 obtain rfl | rfl | rfl:i=0 ∨ i=1 ∨ i=2:=by omega
 all_goals omega
end
theorem sinkLast_any (w:World) (p o n cap:Nat) (ad:Option Addr) (hc:w.cell? ⟨p,o,none⟩=some (.slice ad n cap)) :
  Calls Tryz.prog 133 #[.pointer (some ⟨p,o,none⟩)] w fun r w' => r = .returned (.int .i64 n)∧w' = w:=by
 go_enter Tryz.func133,Tryz.ntmps133
 go_wp2
 go_ret
 exact ⟨rfl,rfl⟩
theorem sinkNext_any (w:World) (p o n cap:Nat) (ad:Option Addr) (hc:w.cell? ⟨p,o,none⟩=some (.slice ad n cap)) (hn:n ≤ 1000) :
  Calls Tryz.prog 130 #[.pointer (some ⟨p,o,none⟩)] w fun r w' => r = .returned (.int .i64 (n+1:Nat))∧w' = w:=by
 have HL:=hide (sinkLast_any w p o n cap ad hc)
 have hw:IntKind.i64.wrap ((n:Int)+1)=(n:Int)+1:=by rw [IntKind.wrap_i64];omega
 clear hc
 go_enter Tryz.func130,Tryz.ntmps130
 go_wp2_with (go_at_call 133;refine (unhide HL).mono ?_;rintro r y ⟨rfl,rfl⟩)
 go_ret
 exact ⟨by simp,rfl⟩
set_option maxHeartbeats 1000000 in
theorem committed_any {w:World} {p e s:Nat} {logs:Nat→List ByteArray} {sh:Nat→List (Nat × Value)} {arr:Array Value} {lv nv mv:Nat→Value} {rv:Value} (H:KsAt w p e logs sh arr s lv nv mv rv) :
  Calls Tryz.prog 129 #[ptrTo p] w fun r w' => r = .returned (.int .i64 ((logs 0).length+(logs 1).length+(logs 2).length:Nat))∧w' = w:=by
 obtain ⟨a0,k0,_,c0⟩:=H.logc (i:=0) (by omega)
 obtain ⟨a1,k1,_,c1⟩:=H.logc (i:=1) (by omega)
 obtain ⟨a2,k2,_,c2⟩:=H.logc (i:=2) (by omega)
 have hcnt:=H.cnt
 have L0:=hide (sinkLast_any w p 2 _ k0 a0 c0)
 have L1:=hide (sinkLast_any w p 5 _ k1 a1 c1)
 have L2:=hide (sinkLast_any w p 8 _ k2 a2 c2)
 generalize (logs 0).length=n0 at *
 generalize (logs 1).length=n1 at *
 generalize (logs 2).length=n2 at *
 clear H c0 c1 c2
 unfold ptrTo
 go_enter Tryz.func129,Tryz.ntmps129
 go_wp2
 go_loopw [3,4,5] (fun v _ i wr => ∃ j:Nat,j ≤ 3∧i = .int .i64 j∧v = .int .i64 (if j=0 then 0 else if j=1 then n0 else if j=2 then n0+n1 else n0+n1+n2:Nat)∧wr=w) (fun _ _ i _ => 3 - (intOf i).toNat)
 case atStart => exact ⟨0,by omega,rfl,rfl,rfl⟩
 case round =>
  obtain ⟨j,hj,rfl,rfl,rfl⟩:=hrel
  rcases (show j=0 ∨ j=1 ∨ j=2 ∨ j=3 by omega) with rfl | rfl | rfl | rfl
  ·have hw:IntKind.i64.wrap (n0:Int)=(n0:Int):=by rw [IntKind.wrap_i64];omega
   go_wp2_with (go_at_call 133;refine (unhide L0).mono ?_;rintro r y ⟨rfl,rfl⟩)
   exact ⟨⟨1,by omega,by go_num,by simp,by first | rfl | trivial⟩,by simp [intOf]⟩
  ·have hw:IntKind.i64.wrap ((n0:Int)+(n1:Int))=(n0:Int)+(n1:Int):=by rw [IntKind.wrap_i64];omega
   go_wp2_with (go_at_call 133;refine (unhide L1).mono ?_;rintro r y ⟨rfl,rfl⟩)
   exact ⟨⟨2,by omega,by go_num,by simp,by first | rfl | trivial⟩,by simp [intOf]⟩
  ·have hw:IntKind.i64.wrap ((n0:Int)+(n1:Int)+(n2:Int))=(n0:Int)+(n1:Int)+(n2:Int):=by rw [IntKind.wrap_i64];omega
   go_wp2_with (go_at_call 133;refine (unhide L2).mono ?_;rintro r y ⟨rfl,rfl⟩)
   exact ⟨⟨3,by omega,by go_num,by simp,by first | rfl | trivial⟩,by simp [intOf]⟩
  ·go_wp2
   go_ret
   exact ⟨by simp,rfl⟩
theorem hasRoom_any {w:World} {p e s:Nat} {logs:Nat→List ByteArray} {sh:Nat→List (Nat × Value)} {arr:Array Value} {lv nv mv:Nat→Value} {rv:Value} (H:KsAt w p e logs sh arr s lv nv mv rv) :
  Calls Tryz.prog 178 #[ptrTo p] w fun r w' => r = .returned (.bool (decide ((logs 0).length+(logs 1).length+(logs 2).length < 120)))∧w' = w:=by
 have HC:=hide (committed_any H)
 have hcnt:=H.cnt
 generalize (logs 0).length+(logs 1).length+(logs 2).length=n at *
 clear H
 unfold ptrTo at *
 by_cases h:n < 120
 ·rw [decide_eq_true h]
  have h':(n:Int) < 120:=by omega
  go_enter Tryz.func178,Tryz.ntmps178
  go_wp2_with (go_at_call 129;refine (unhide HC).mono ?_;rintro r y ⟨rfl,rfl⟩)
  go_ret
  exact ⟨by simp,rfl⟩
 ·rw [decide_eq_false h]
  have h':¬ (n:Int) < 120:=by omega
  go_enter Tryz.func178,Tryz.ntmps178
  go_wp2_with (go_at_call 129;refine (unhide HC).mono ?_;rintro r y ⟨rfl,rfl⟩)
  go_ret
  exact ⟨by simp;omega,rfl⟩
end Go.Proofs.YtamafdcnbcoegabGreat
namespace Go.Proofs.YtamafdcnbcoegabGreat
open Go.RowKit
structure Sv where
 arr:Array Value
 s:Nat
 dp:Nat
 lv:Nat→Value
 nv:Nat→Value
 mv:Nat→Value
 rv:Value
 dlv:Value
 duv:Value
def rulesOf (p:Nat):List Value:=[.int .i64 1,.func (.func 87) #[ptrTo p] #[],.int .i64 3,.func (.func 88) #[ptrTo p] #[]]
structure PkAt (w:World) (p e:Nat) (logs:Nat→List ByteArray) (sh:Nat→List (Nat × Value)) (st:Mod.Stv) (c:Sv):Prop where
 ks:KsAt w p e logs sh c.arr c.s c.lv c.nv c.mv c.rv
 stt:StAt w c.s c.dp st c.dlv c.duv
 rl:RowO w 130 2 c.rv 2 (rulesOf p)
 len:st.dk.bytes.length=7808
def PkU (p:Nat) (c:Sv) (k:Nat):Prop:=KsU p c.lv c.nv c.mv k ∨ StU c.s c.dp c.dlv c.duv k ∨ c.rv.ownBlock=some k
section
variable {w x y:World} {p e:Nat} {logs:Nat→List ByteArray} {sh:Nat→List (Nat × Value)} {st:Mod.Stv} {c:Sv}
theorem PkAt.lt (h:PkAt w p e logs sh st c):∀ k,PkU p c k→k < w.heap.size:=by
 rintro k (hk | hk | hk)
 ·exact h.ks.lt k hk
 ·exact h.stt.lt k hk
 ·exact h.rl.lt k hk
theorem PkAt.far {E:Nat→Prop} (h:PkAt w p e logs sh st c) (hf:Far E w x) (hE:∀ k,PkU p c k→¬ E k):PkAt x p e logs sh st c :=
 ⟨h.ks.far hf (fun k hk => hE k (.inl hk)),h.stt.far hf (fun k hk => hE k (.inr (.inl hk))),h.rl.far hf (fun g hg => hE g (.inr (.inr hg))),h.len⟩
theorem ks_not_cells {arr:Array Value} {s:Nat} {lv nv mv:Nat→Value} {rv:Value} (h:KsAt w p e logs sh arr s lv nv mv rv) {q:Nat} {cs:Array Value} {t:TypeId} {fr:Nat × Nat} (hb:w.heap[q]? = some (.cells cs t fr)) (h1:t ≠ 125) (h2:t ≠ 9) (h3:t ≠ 3):¬ KsU p lv nv mv q:=by
 rintro (rfl | ⟨i,hi,hk⟩ | ⟨i,hi,hk⟩)
 ·have:=h.blk
  rw [hb] at this
  injection this with this
  injection this with _ this _
  exact h1 this
 ·exact (h.lgs i hi).ne hb (fun e => h2 e.symm) hk
 ·rcases hk with hk | hk
  ·exact (RowO.of_own (h.shs i hi).nums).ne hb (fun e => h3 e.symm) hk
  ·rcases (h.shs i hi).map with ⟨e,_⟩ | ⟨b,e,M⟩
   ·rw [e] at hk;cases hk
   ·rw [e] at hk;cases hk;exact M.not_cells hb
theorem row_cells {e':TypeId} {size n:Nat} {v:Value} {xs:List Value} (h:RowO w e' size v n xs) {g:Nat} (hg:v.ownBlock=some g):∃ cur,w.heap[g]? = some (.cells cur e' (0,0)):=by
 obtain ⟨_,h2⟩:=h
 rcases h2 with ⟨rfl,_⟩ | ⟨g',o,cap,cur,rfl,hh,_⟩
 ·cases hg
 ·cases hg;exact ⟨cur,hh⟩
theorem PkAt.sep (h:PkAt w p e logs sh st c):∀ k,KsU p c.lv c.nv c.mv k→¬ StU c.s c.dp c.dlv c.duv k:=by
 rintro k hk (hs | hs | hs | hs)
 ·subst hs;exact ks_not_cells h.ks h.stt.blk (by decide) (by decide) (by decide) hk
 ·subst hs;exact ks_not_cells h.ks h.stt.dk.blk (by decide) (by decide) (by decide) hk
 ·obtain ⟨cur,hc⟩:=row_cells (RowO.of_own h.stt.dk.row) hs
  exact ks_not_cells h.ks hc (by decide) (by decide) (by decide) hk
 ·obtain ⟨cur,hc⟩:=row_cells h.stt.dk.un hs
  exact ks_not_cells h.ks hc (by decide) (by decide) (by decide) hk
theorem PkAt.sepr (h:PkAt w p e logs sh st c):∀ k,c.rv.ownBlock=some k→¬ KsU p c.lv c.nv c.mv k∧¬ StU c.s c.dp c.dlv c.duv k:=by
 intro k hk
 obtain ⟨cur,hc⟩:=row_cells h.rl hk
 refine ⟨ks_not_cells h.ks hc (by decide) (by decide) (by decide),?_⟩
 rintro (hs | hs)
 ·rw [hs,h.stt.blk] at hc
  injection hc with hc
  injection hc with _ hc _
  exact absurd hc (by decide)
 ·exact dk_ne h.stt.dk hc (by decide) (by decide) (by decide) hs
end
def PkStep (w x:World) (p e:Nat) (logs:Nat→List ByteArray) (sh:Nat→List (Nat × Value)) (st:Mod.Stv) (c:Sv):Prop :=
 ∃ c',PkAt x p e logs sh st c' ∧ Far (PkU p c) w x∧(∀ k,PkU p c' k→PkU p c k ∨ w.heap.size ≤ k)∧c'.s=c.s∧c'.rv=c.rv
theorem ksAt_log {x y:World} {p e s:Nat} {logs:Nat→List ByteArray} {sh:Nat→List (Nat × Value)} {arr:Array Value} {lv nv mv:Nat→Value} {rv:Value} (h:KsAt x p e logs sh arr s lv nv mv rv) (i:Nat) (hi:i < 3) (b:ByteArray) (v':Value)
  (hF:Far (fun k => (lv i).ownBlock=some k) x y) (hv:RowO y 9 1 v' ((logs i).length+1) (strs (logs i ++ [b]))) (hl:Loc x (lv i) v') (hc:(logs 0).length+(logs 1).length+(logs 2).length < 120) :
  KsAt (y.setCell ⟨p,2+i * 3,none⟩ v') p e (fun j => if j=i then logs i ++ [b] else logs j) sh (arr.setIfInBounds (2+i * 3) v') s (fun j => if j=i then v' else lv j) nv mv rv:=by
 have hpl:∀ j,j < 3→(lv j).ownBlock ≠ some p:=fun j hj => (h.lgs j hj).ne h.blk (by decide)
 have hby:=hF.blk h.blk (hpl i hi)
 have hs:=far_set y p (2+i * 3) v'
 have hF2:Far (fun k => k=p ∨ (lv i).ownBlock=some k) x (y.setCell ⟨p,2+i * 3,none⟩ v'):=(hF.mono (fun _ _ h => .inr h)).trans hs (fun _ _ h => .inl h)
 have hpv:v'.ownBlock ≠ some p:=hv.ne hby (by decide)
 have hget:∀ j,j ≠ 2+i * 3→(arr.setIfInBounds (2+i * 3) v')[j]? = arr[j]?:=fun j hj => Array.getElem?_setIfInBounds_ne (fun e => hj e.symm)
 refine ⟨blk_set hby,by simpa using h.sz,?_,?_,?_,?_,?_,?_,?_,?_,h.are,?_,h.aps,?_,h.ep⟩
 ·rw [hget _ (by omega)];exact h.a0
 ·rw [hget _ (by omega)];exact h.a1
 ·intro j hj
  by_cases hji:j=i
  ·subst hji
   have hlt:2+j * 3 < arr.size:=by rw [h.sz];omega
   simp [hlt]
  ·rw [if_neg hji,hget _ (by omega)];exact h.al j hj
 ·intro j hj;rw [hget _ (by omega)];exact h.an j hj
 ·intro j hj;rw [hget _ (by omega)];exact h.am j hj
 ·rw [hget _ (by omega)];exact h.ar
 ·intro j hj
  by_cases hji:j=i
  ·subst hji
   have:=hv.far hs (fun g hg e => hpv (by rw [hg,e]))
   simpa using this
  ·simp only [if_neg hji]
   exact (h.lgs j hj).far hF2 (fun g hg e => e.elim (fun e => hpl j hj (by rw [hg,e])) (fun e => h.apl j i hj hi hji g hg e))
 ·intro j hj
  refine (h.shs j hj).far hF2 (fun k hk e => ?_)
  have hc:∃ cs t,x.heap[k]? = some (.cells cs t (0,0))∧t ≠ 3:=by
   rcases e with rfl | e
   ·exact ⟨_,_,h.blk,by decide⟩
   ·obtain ⟨cur,hh⟩:=row_cells (h.lgs i hi) e
    exact ⟨_,_,hh,by decide⟩
  obtain ⟨cs,t,hh,ht⟩:=hc
  exact (h.shs j hj).ne hh ht hk
 ·intro j j2 hj hj2 hne g hg
  by_cases h1:j=i
  ·subst h1
   rw [if_pos rfl] at hg
   rw [if_neg (fun e => hne e.symm)]
   intro hg2
   rcases hl with hl | hl | ⟨g3,hl,hg3⟩
   ·rw [hl] at hg;cases hg
   ·rw [hl] at hg;exact h.apl j j2 hj hj2 hne g hg hg2
   ·rw [hl] at hg;cases hg
    have:=(h.lgs j2 hj2).lt g hg2
    omega
  ·rw [if_neg h1] at hg
   by_cases h2:j2=i
   ·subst h2
    rw [if_pos rfl]
    intro hg2
    rcases hl with hl | hl | ⟨g3,hl,hg3⟩
    ·rw [hl] at hg2;cases hg2
    ·rw [hl] at hg2;exact h.apl j j2 hj hj2 hne g hg hg2
    ·rw [hl] at hg2;cases hg2
     have:=(h.lgs j hj).lt g hg
     omega
   ·rw [if_neg h2]
    exact h.apl j j2 hj hj2 hne g hg
 ·obtain rfl | rfl | rfl:i=0 ∨ i=1 ∨ i=2:=by omega
  all_goals
   simp
   omega
end Go.Proofs.YtamafdcnbcoegabGreat
namespace Go.Proofs.YtamafdcnbcoegabGreat
open Go.RowKit
set_option maxRecDepth 100000 in
set_option maxHeartbeats 2000000 in
theorem commit_any {w:World} {p e:Nat} {logs:Nat→List ByteArray} {sh:Nat→List (Nat × Value)} {st:Mod.Stv} {c:Sv} (H:PkAt w p e logs sh st c) (i:Nat) (hi:i < 3) (b:ByteArray) (hb:b.size ≤ 20)
  (hroom:(logs 0).length+(logs 1).length+(logs 2).length < 120) :
  Calls Tryz.prog 203 #[ptrTo p,.int .i64 i,.string b] w fun r w' =>
   r = .returned (.int .i64 (st.putRecord ((logs 0).length+(logs 1).length+(logs 2).length) i ((logs i).length+1) b.data.toList).1) ∧
   PkStep w w' p e (if (st.putRecord ((logs 0).length+(logs 1).length+(logs 2).length) i ((logs i).length+1) b.data.toList).1=0 then fun j => if j=i then logs i ++ [b] else logs j else logs) sh
    (st.putRecord ((logs 0).length+(logs 1).length+(logs 2).length) i ((logs i).length+1) b.data.toList).2 c:=by
 obtain ⟨n,hn⟩:∃ n,n=(logs 0).length+(logs 1).length+(logs 2).length:=⟨_,rfl⟩
 obtain ⟨q,hq⟩:∃ q,q=(logs i).length+1:=⟨_,rfl⟩
 obtain ⟨ad,cap,hlv,clog⟩:=H.ks.logc hi
 have hll:=H.ks.loglen hi
 have hpl:=lt_of_block H.ks.blk
 have hNX:=fun y (hy:Below w.heap.size w y) => hide (sinkNext_any y p (2+i * 3) _ cap ad ((hy.cell (p:=⟨p,2+i * 3,none⟩) hpl).trans clog) (by omega))
 have hCM:=fun y (hy:Below w.heap.size w y) => hide (committed_any (H.ks.far (far_below (E:=fun _ => False) hy) (fun _ _ h => h)))
 rw [← hq] at hNX
 rw [← hn] at hCM hroom ⊢
 rw [← hq]
 have hWR:=fun y (hy:Below w.heap.size w y) => hide (writeRecord_any y c.s c.dp st c.dlv c.duv (H.stt.far (far_below (E:=fun _ => False) hy) (fun _ _ h => h)) n i q b (by rw [H.len];omega) (by omega) (by omega) hb)
 have c0:w.cell? ⟨p,0,none⟩=some (ptrTo c.s):=by rw [blk_cell H.ks.blk,H.ks.a0]
 obtain ⟨ee,hee⟩:∃ ee,ee=(st.putRecord n i q b.data.toList).1:=⟨_,rfl⟩
 obtain ⟨st2,hst⟩:∃ st2,st2=(st.putRecord n i q b.data.toList).2:=⟨_,rfl⟩
 rw [← hee,← hst] at hWR ⊢
 have hlen2:st2.dk.bytes.length=7808:=by
  rw [hst]
  unfold Mod.Stv.putRecord Mod.Dk.put
  simp only
  split
  ·exact H.len
  ·split
   ·exact H.len
   ·simp only
    rw [Mod.length_setSec (Mod.length_sealB _ _ (by rw [Mod.length_recIn];simp;omega)) (by rw [H.len];omega)]
    exact H.len
 have HEQ:=hide (And.intro hn (And.intro hq (And.intro hee hst)))
 have hi0:(0:Int) ≤ (i:Int):=by omega
 have hi3:(i:Int) < 3:=by omega
 have HH:=hide H
 have HLV:=hide hlv
 clear H hlv hn hq hee hst clog
 unfold ptrTo at *
 go_enter Tryz.func203,Tryz.ntmps203
 go_upto_region 2 with fail
 refine wp_region_foot (by kernel_rfl)
  [fun v _ => v = .pointer (some ⟨p,0,none⟩),fun v _ => v = .pointer (some ⟨p,0,none⟩),fun v _ => v = .pointer (some ⟨p,0,none⟩),fun v _ => v = .pointer (some ⟨c.s,0,none⟩),fun v _ => v = .pointer (some ⟨p,0,none⟩),fun v _ => v = .int .i64 n,fun v _ => v = .int .i64 i,fun v _ => v = .pointer (some ⟨p,2+i * 3,none⟩),fun v _ => v = .int .i64 q,fun v _ => v = .string b,
   fun v _ => v = .agg #[.int .i64 i,.int .i64 q,.string b],fun v y => v = .int .i64 ee∧∃ uv',StAt y c.s c.dp st2 c.dlv uv' ∧ Loc w c.duv uv',fun v _ => v = .int .i64 ee]
  [[(0,none)],[(14,some 0)],[(15,some 1)],[(16,some 2)],[(0,none)],[(18,some 4)],[(1,none)],[(7,none)],[(21,some 7)],[(2,none)],[(20,some 6),(22,some 8),(23,some 9)],[(17,some 3),(19,some 5),(24,some 10)],[(25,some 11)]] [some 14,some 15,some 16,some 17,some 18,some 19,some 20,some 21,some 22,some 23,some 24,some 25,some 8] [false,false,false,false,false,false,false,false,true,false,false,false,false,false,true,true,true,true,true,true,true,true,true,true,true,true,false,false,false,false,false,false,false,false,false,false,false,false,false]
  [(11,StU c.s c.dp c.dlv c.duv)]
  (by kernel_rfl) (by kernel_rfl) (by kernel_rfl) (by kernel_rfl) (by kernel_rfl) ?_ ?_ ?_ ?_
 ·repeat' (first | exact stable_eq _ | exact (fun _ _ _ h hb => ⟨h.1,h.2.imp fun _ h => ⟨h.1.far (far_below (E:=fun _ => False) hb) (fun _ _ h => h),h.2⟩⟩) | exact trivial | apply And.intro)
 ·repeat' (first | exact trivial | exact .inl rfl | exact .inr (.inr (stableF_eq _ _)) | apply And.intro)
 ·refine ⟨?_,?_,?_,?_,?_,?_,?_,?_,?_,?_,?_,?_,?_,trivial⟩
  all_goals
   intro a z hb hf
   simp only [PlanFacts,List.getD_cons_zero,List.getD_cons_succ,Array.getD_eq_getD_getElem?] at hf
   try simp at hf
  iterate 3
   ·clear hb
    go_simp
    exact ⟨_,rfl,Far.refl _ _,rfl⟩
  ·have z0:z.cell? ⟨p,0,none⟩=some (.pointer (some ⟨c.s,0,none⟩)):=by
    have:=hb.blk (unhide HH).ks.blk (footBut_no (by intro q hq;simp at hq;subst hq;exact fun h => (unhide HH).sep p (.inl rfl) h))
    rw [blk_cell this,(unhide HH).ks.a0]
    rfl
   clear hb
   go_simp
   exact ⟨_,rfl,Far.refl _ _,rfl⟩
  ·clear hb
   go_simp
   exact ⟨_,rfl,Far.refl _ _,rfl⟩
  ·have hbz:=foot_below hb (by intro q hq;simp at hq;subst hq;show depB _ 11 5=true;decide +kernel)
   have HC:=hide (unhide (hCM z hbz))
   clear hb hbz
   go_simp
   refine (unhide HC).mono ?_
   rintro r z2 ⟨rfl,rfl⟩
   exact ⟨_,rfl,Far.refl _ _,rfl⟩
  iterate 2
   ·clear hb
    go_simp
    exact ⟨_,rfl,Far.refl _ _,rfl⟩
  ·have hbz:=foot_below hb (by intro q hq;simp at hq;subst hq;show depB _ 11 8=true;decide +kernel)
   have HC:=hide (unhide (hNX z hbz))
   clear hb hbz
   go_simp
   refine (unhide HC).mono ?_
   rintro r z2 ⟨rfl,rfl⟩
   exact ⟨_,rfl,Far.refl _ _,rfl⟩
  iterate 2
   ·clear hb
    go_simp
    exact ⟨_,rfl,Far.refl _ _,rfl⟩
  ·have hbz:Below w.heap.size w z:=hb.below (Nat.le_refl _) (by
    rintro j _ ⟨q,hq,g1,g2,g3⟩
    simp at hq
    subst hq
    exact g1 rfl)
   have HC:=hide (unhide (hWR z hbz))
   have hzz:=hbz.size
   clear hb hbz
   go_simp
   refine (unhide HC).mono ?_
   rintro r z2 ⟨rfl,uv',k1,k2,k3⟩
   exact ⟨_,rfl,footOf_of (.head _) k3,rfl,uv',k1,loc_less k2 hzz⟩
  ·clear hb
   obtain ⟨hf,_⟩:=hf
   go_simp
   exact ⟨_,rfl,Far.refl _ _,rfl⟩
 ·intro f z hF hwd
  obtain ⟨_,uv',k1,k2⟩:=hwd.2.2.2.2.2.2.2.2.2.2.2.1
  have h12:=hwd.2.2.2.2.2.2.2.2.2.2.2.2.1
  have hF:Far (StU c.s c.dp c.dlv c.duv) w z:=hF.mono (fun k _ h => by
   obtain ⟨q,hq,h⟩:=h
   simp at hq
   subst hq
   exact h)
  have hPK:PkAt z p e logs sh st2 { c with duv:=uv' }:=⟨(unhide HH).ks.far hF (fun k hk h => (unhide HH).sep k hk h),k1,(unhide HH).rl.far hF (fun g hg h => ((unhide HH).sepr g hg).2 h),hlen2⟩
  have HPK:=hide hPK
  have HF:=hide hF
  have HK2:=hide k2
  clear hwd hF k1 k2 hPK
  simp only [mergeT,h12]
  generalize f 14=x14
  generalize f 15=x15
  generalize f 16=x16
  generalize f 17=x17
  generalize f 18=x18
  generalize f 19=x19
  generalize f 20=x20
  generalize f 21=x21
  generalize f 22=x22
  generalize f 23=x23
  generalize f 24=x24
  generalize f 25=x25
  have hmk:∀ (logs':Nat→List ByteArray) (z':World) (arr':Array Value) (lv':Nat→Value),KsAt z' p e logs' sh arr' c.s lv' c.nv c.mv c.rv→Far (fun k => k=p ∨ (c.lv i).ownBlock=some k) z z' → (∀ j,j < 3→Loc z (c.lv j) (lv' j))→PkStep w z' p e logs' sh st2 c:=by
   intro logs' z' arr' lv' hks hf hl
   have hP:=unhide HPK
   have hFw:=unhide HF
   refine ⟨{ c with arr:=arr',lv:=lv',duv:=uv' },⟨hks,hP.stt.far hf (fun k hk hh => ?_),hP.rl.far hf (fun g hg hh => ?_),hP.len⟩,?_,?_,rfl,rfl⟩
   ·rcases hh with rfl | hh
    ·exact hP.sep _ (.inl rfl) hk
    ·exact hP.sep k (.inr (.inl ⟨i,hi,hh⟩)) hk
   ·rcases hh with rfl | hh
    ·exact (hP.sepr _ hg).1 (.inl rfl)
    ·exact (hP.sepr _ hg).1 (.inr (.inl ⟨i,hi,hh⟩))
   ·exact (hFw.mono (fun _ _ h => .inr (.inl h))).trans hf (fun k _ h => h.elim (fun h => .inl (.inl h)) (fun h => .inl (.inr (.inl ⟨i,hi,h⟩))))
   ·have hwz:=hFw.size
    have K2:=unhide HK2
    rintro k ((rfl | ⟨j,hj,hk⟩ | hk) | (rfl | rfl | hk | hk) | hk)
    ·exact .inl (.inl (.inl rfl))
    ·rcases hl j hj with h | h | ⟨g,h,hg⟩
     ·rw [h] at hk;cases hk
     ·exact .inl (.inl (.inr (.inl ⟨j,hj,by rw [← h];exact hk⟩)))
     ·rw [h] at hk;cases hk;exact .inr (by omega)
    ·exact .inl (.inl (.inr (.inr hk)))
    ·exact .inl (.inr (.inl (.inl rfl)))
    ·exact .inl (.inr (.inl (.inr (.inl rfl))))
    ·exact .inl (.inr (.inl (.inr (.inr (.inl hk)))))
    ·rcases K2 with h | h | ⟨g,h,hg⟩
     ·rw [h] at hk;cases hk
     ·exact .inl (.inr (.inl (.inr (.inr (.inr (by rw [← h];exact hk))))))
     ·rw [h] at hk;cases hk;exact .inr hg
    ·exact .inl (.inr (.inr hk))
  by_cases h0:ee=0
  ·subst h0
   have hP:=(unhide HPK).ks
   have y0:z.cell? ⟨p,2+i * 3,none⟩=some (.slice ad (logs i).length cap):=by rw [blk_cell hP.blk,hP.al i hi,unhide HLV]
   have yf:z.frozen? ⟨p,2+i * 3,none⟩=false:=blk_free (i:=2+i * 3) hP.blk
   have hrow:=hP.lgs i hi
   have HR:=hide hrow
   have HMK:=hide hmk
   clear hP hrow hmk
   have hl120:(logs i).length ≤ 1000:=by omega
   have hrz:RowO z 9 1 (.slice ad (logs i).length cap) (logs i).length (strs (logs i)):=by
    have:=unhide HR
    rw [show ({ c with duv:=uv' }:Sv).lv i = .slice ad (logs i).length cap from unhide HLV] at this
    exact this
   have hra:=fun ob => hide (hrz.keep (w':=z.alloc ob) (fun g hg => hao _ _ (hrz.lt g hg)))
   obtain ⟨m,hm⟩:∃ m,m=(logs i).length:=⟨_,rfl⟩
   obtain ⟨ss,hss⟩:∃ ss,ss=strs (logs i):=⟨_,rfl⟩
   rw [← hm] at hl120 y0
   rw [← hm,← hss] at hra
   have HM:=hide (And.intro hm hss)
   have HAPP:∀ ob v' w1,RowO w1 9 1 v' (m+1) (ss ++ [.string b])→App (z.alloc ob) w1 (.slice ad m cap) v' → ∃ ad2 cap2,v' = .slice ad2 (m+1) cap2∧w1.cell? ⟨p,2+i * 3,none⟩=some (.slice ad m cap)∧w1.frozen? ⟨p,2+i * 3,none⟩=false ∧
     Hid (RowO w1 9 1 v' (m+1) (ss ++ [.string b])∧Loc z (.slice ad m cap) v' ∧ Far (fun k => (Value.slice ad m cap).ownBlock=some k) z w1):=by
    intro ob v' w1 h1 h2
    obtain ⟨ad2,cap2,hv2,_⟩:=h1.shape
    have hFz:Far (fun k => (Value.slice ad m cap).ownBlock=some k) z w1:=(far_below (E:=fun k => (Value.slice ad m cap).ownBlock=some k) ((Below.refl _ _).alloc (Nat.le_refl _) ob)).trans (far_grown h2.grown) (fun _ _ h => h)
    have hne:(Value.slice ad m cap).ownBlock ≠ some p:=by
     rw [hm]
     exact hrz.ne (unhide HPK).ks.blk (by decide)
    have hpb:=hFz.blk (unhide HPK).ks.blk hne
    refine ⟨ad2,cap2,hv2,?_,blk_free (i:=2+i * 3) hpb,hide ⟨h1,loc_app (w:=z) (by simp) h2,hFz⟩⟩
    rw [blk_cell hpb,(unhide HPK).ks.al i hi,hm]
    exact congrArg some (unhide HLV)
   clear hrz hm hss
   go_upto_region 6 with (at_builtin;refine wpList_app_o rfl (.tmp 33) (.tmp 35) 33 rfl 9 _ 1 16 Tryz.underlying33 infoStr rfl _ m ss (unhide (hra _)) rfl ⟨z.heap.size,0,none⟩ 1 1 [.string b] rfl rfl cells_new (by intro u hu;simp at hu;subst hu;rfl) (by omega) (by omega) (by omega) ?_;intro v' w1 h1 h2;obtain ⟨ad2,cap2,rfl,z1,zf,HA⟩:=HAPP _ _ _ h1 h2;clear h1 h2;go_simp)
   go_wp2
   go_ret
   obtain ⟨A1,A2,A3⟩:=unhide HA
   obtain ⟨q1,q2⟩:=unhide HM
   have hlvi:c.lv i = .slice ad m cap:=by rw [q1];exact unhide HLV
   refine ⟨rfl,(unhide HMK) _ _ _ _ (ksAt_log (unhide HPK).ks i hi b _ ?_ ?_ ?_ ?_) ?_ ?_⟩
   ·show Far (fun k => (c.lv i).ownBlock=some k) z w1
    rw [hlvi];exact A3
   ·rw [← q1,show strs (logs i ++ [b])=ss ++ [.string b] by rw [q2];simp [strs]]
    exact A1
   ·show Loc z (c.lv i) _
    rw [hlvi];exact A2
   ·rw [← (unhide HEQ).1];exact hroom
   ·rw [hlvi]
    exact (A3.mono (fun _ _ h => .inr h)).trans (far_set w1 p (2+i * 3) _) (fun _ _ h => .inl h)
   ·intro j hj
    show Loc z (c.lv j) (if j=i then _ else c.lv j)
    by_cases hji:j=i
    ·rw [if_pos hji,hji,hlvi];exact A2
    ·rw [if_neg hji];exact .inr (.inl rfl)
  ·have hne:(ee == 0)=false:=by simpa using h0
   have HMK:=hide (hmk logs z c.arr c.lv (unhide HPK).ks (Far.refl _ _) (fun _ _ => .inr (.inl rfl)))
   clear hmk
   go_wp2
   go_ret
   exact ⟨rfl,unhide HMK⟩
end Go.Proofs.YtamafdcnbcoegabGreat
namespace Go.Proofs.YtamafdcnbcoegabGreat
open Go.RowKit
def delL:List (Nat × Value)→Nat→List (Nat × Value)
 | [],_ => []
 | x :: r,n => if x.1=n then r else x :: delL r n
theorem delL_sub:∀ (l:List (Nat × Value)) (n:Nat),(delL l n).Sublist l
 | [],_ => List.Sublist.refl _
 | x :: r,n => by
  unfold delL
  split
  ·exact List.sublist_cons_self _ _
  ·exact (delL_sub r n).cons_cons _
theorem delL_look {l:List (Nat × Value)} (hs:(l.map (·.1)).Pairwise (· < ·)) (n:Nat):look (delL l n)=delF (look l) n:=by
 induction l with
 | nil => funext k;simp [delL,look,delF]
 | cons x r ih =>
  rw [List.map_cons,List.pairwise_cons] at hs
  unfold delL
  split
  ·rename_i h
   subst h
   exact (del_look (fun y hy => hs.1 y.1 (List.mem_map.2 ⟨y,hy,rfl⟩))).symm
  ·rename_i h
   funext k
   have:=congrFun (ih hs.2) k
   unfold delF at this ⊢
   rw [look_cons,look_cons,this]
   by_cases h1:k=(x.1:Int)
   ·rw [if_pos h1,if_pos h1,if_neg (by omega)]
   ·rw [if_neg h1,if_neg h1]
theorem delL_keys {l:List (Nat × Value)} (hs:(l.map (·.1)).Pairwise (· < ·)) {n:Nat} (hc:(l.map (·.1)).contains n=true) :
  (delL l n).map (·.1)=(l.map (·.1)).take ((l.map (·.1)).countP (· < n)) ++ (l.map (·.1)).drop ((l.map (·.1)).countP (· < n)+1):=by
 induction l with
 | nil => simp at hc
 | cons x r ih =>
  have hs0:=hs
  rw [List.map_cons,List.pairwise_cons] at hs
  unfold delL
  split
  ·rename_i h
   subst h
   have hz:(r.map (·.1)).countP (· < x.1)=0:=countP_zero_of (fun y hy => by have:=hs.1 y hy;omega)
   rw [List.map_cons,List.countP_cons,hz]
   simp
  ·rename_i h
   have hc2:(r.map (·.1)).contains n=true:=by
    rw [List.map_cons,List.contains_cons] at hc
    have hne:(n == x.1)=false:=by simp;omega
    rw [hne,Bool.false_or] at hc
    exact hc
   have hlt:x.1 < n:=by
    have:n ∈ r.map (·.1):=by simpa using hc2
    exact hs.1 n this
   rw [List.map_cons,ih hs.2 hc2,List.map_cons,List.countP_cons]
   simp [hlt]
theorem takeS_none {w:World} {p o:Nat} {t:TypeId} {arr:Array Value} {nv mv:Value} {l:List (Nat × Value)} (S:ShAt w p o t arr nv mv l) (n:Nat) (hn:look l n=none) :
  Calls Tryz.prog 204 #[.pointer (some ⟨p,o,none⟩),.int .i64 n] w fun e w' => e = .returned (.tuple #[zeroS,.bool false])∧Below w.heap.size w w':=by
 have hpl:=lt_of_block S.blk
 have c1:∀ ob,(w.alloc ob).cell? ⟨p,o+1,none⟩=some mv:=fun ob => (World.cell?_alloc_lt w _ ⟨p,o+1,none⟩ hpl).trans ((blk_cell S.blk).trans S.c1)
 have hrun:=fun ob => (run_lookup_i (P:=Tryz.prog) (w:=w.alloc ob) (t:=117) Tryz.underlying117 Tryz.underlying3 (zero_S _) (S.sh.map.keep (fun g hg => hao _ _ (S.sh.lt g (.inr hg)))) n).1
 rw [hn] at hrun
 simp only [Option.getD_none,Option.isSome_none,zeroS] at hrun ⊢
 clear S hn
 go_enter Tryz.func204,Tryz.ntmps204
 go_wp2
 refine bodyPost_ret (v:=.tuple #[.agg #[.string ⟨#[]⟩],.bool false]) (by simp [results,Tryz.results204,go_sem]) rfl ⟨rfl,?_⟩
 exact ((Below.refl _ _).alloc (Nat.le_refl _) _).alloc (by simp) _
set_option maxRecDepth 100000 in
set_option maxHeartbeats 1000000 in
theorem takeS_some {w:World} {p o:Nat} {t:TypeId} {arr:Array Value} {nv mv:Value} {l:List (Nat × Value)} (S:ShAt w p o t arr nv mv l) (n:Nat) (b:ByteArray) (hn:look l n=some (recS b)) :
  Calls Tryz.prog 204 #[.pointer (some ⟨p,o,none⟩),.int .i64 n] w fun e w' => e = .returned (.tuple #[recS b,.bool true])∧ShTook w w' p o t arr nv mv (delL l n):=by
 have h0s:o < arr.size:=(Array.getElem?_eq_some_iff.1 S.c0).1
 have h1s:o+1 < arr.size:=(Array.getElem?_eq_some_iff.1 S.c1).1
 have hpl:=lt_of_block S.blk
 have hc:(l.map (·.1)).contains n=true:=by
  obtain ⟨x,hx,h1,_⟩:=look_mem hn
  have:x.1=n:=by omega
  simp only [List.contains_eq_mem,decide_eq_true_eq]
  exact List.mem_map.2 ⟨x,hx,this⟩
 have hlen0:l.length ≤ 1000:=S.sh.len
 have hcnt:(l.map (·.1)).countP (· < n)+1 ≤ (l.map (·.1)).length:=by
  have h1:(l.map (·.1)).countP (· < n) ≠ (l.map (·.1)).length:=by
   intro e
   have h2:=List.countP_eq_length.1 e n (by simpa using hc)
   simp at h2
  have h2:(l.map (·.1)).countP (· < n) ≤ (l.map (·.1)).length:=List.countP_le_length
  omega
 obtain ⟨mb,rfl,hM⟩:∃ mb,mv = .map (some mb)∧MapAt w mb (look l):=by
  rcases S.sh.map with ⟨_,h⟩ | ⟨mb,h1,h2⟩
  ·rw [h] at hn;cases hn
  ·exact ⟨mb,h1,h2⟩
 have hmb:=hM.lt
 have hmp:p ≠ mb:=fun e => hM.not_cells (by rw [← e];exact S.blk)
 have hnm:=S.sh.nums.notMap hM
 have hnp:nv.ownBlock ≠ some p:=fun e => S.sh.ne S.blk S.ty (.inl e)
 obtain ⟨ad,cap,hnv,_⟩:=(RowO.of_own S.sh.nums).shape
 rw [List.length_map] at hnv
 have c1:∀ ob,(w.alloc ob).cell? ⟨p,o+1,none⟩=some (.map (some mb)):=fun ob => (World.cell?_alloc_lt w _ ⟨p,o+1,none⟩ hpl).trans ((blk_cell S.blk).trans S.c1)
 have hrun:=fun ob => (run_lookup_i (P:=Tryz.prog) (w:=w.alloc ob) (t:=117) Tryz.underlying117 Tryz.underlying3 (zero_S _) (S.sh.map.keep (fun g hg => hao _ _ (S.sh.lt g (.inr hg)))) n).1
 rw [hn] at hrun
 simp only [Option.getD_some,Option.isSome_some,recS] at hrun ⊢
 have HS:=hide S
 have HN:=hide hn
 have HC:=hide hc
 have HNV:=hide hnv
 clear S hn hM hc hnv
 go_enter Tryz.func204,Tryz.ntmps204
 go_upto_region 3 with fail
 refine wp_world (fun x => x.heap[w.heap.size]? = some (.cells #[.string ⟨#[]⟩] 224 (0,0))∧x.heap[w.heap.size+1]? = some (.cells #[.string b] 224 (0,0))∧Below w.heap.size w x) (alloc2 _ _ _) ?_
 rintro x ⟨h0,h1,hB⟩
 have S1:ShAt x p o t arr nv (.map (some mb)) l:=by
  have S:=unhide HS
  exact ⟨(hB.block _ hpl).trans S.blk,S.c0,S.c1,S.sh.far (far_below (E:=fun _ => False) hB) (fun _ _ h => h),S.ty⟩
 have d0:x.cell? ⟨p,o,none⟩=some nv:=(blk_cell S1.blk).trans S1.c0
 have hx:=hB.size
 have hzx:=lt_of_block h1
 obtain ⟨k,hk⟩:∃ k,k=(l.map (·.1)).countP (· < n):=⟨_,rfl⟩
 have hsearch:=hide (search_any S1.sh.nums S1.sh.sorted (by rw [List.length_map];omega) n)
 rw [← hk,unhide HC] at hsearch
 rw [← hk] at hcnt
 have hdel:=fun q => hide (delete_any (w:=x.drewN q) S1.sh.nums k (k+1) (by omega) hcnt)
 have hkeys:=delL_keys S1.sh.sorted (unhide HC)
 rw [← hk] at hkeys
 rw [← hkeys] at hdel
 have HK:=hide (And.intro hk hkeys)
 have H0:=hide h0
 have H1:=hide h1
 have HB:=hide hB
 have HS1:=hide S1
 have hki:IntKind.i64.wrap ((k:Int)+1)=(k:Int)+1:=by rw [IntKind.wrap_i64];rw [List.length_map] at hcnt;omega
 have hkc:((k:Nat):Int)+1=((k+1:Nat):Int):=by omega
 obtain ⟨k1,hk1⟩:∃ k1,k1=k+1:=⟨_,rfl⟩
 rw [← hk1] at hdel hkc
 rw [hkc] at hki
 clear h0 h1 hB S1 c1 hrun hk hkeys hk1 hcnt
 go_upto_region 4 with (go_at_call 125;refine (unhide hsearch).mono ?_;rintro e y ⟨rfl,q,rfl⟩)
 have d0':(x.drewN q).cell? ⟨p,o,none⟩=some nv:=d0
 have HD:=hide (hdel q)
 have HDZ:∀ z nv',NumsAt z nv' ((delL l n).map (·.1))→Far (fun g => nv.ownBlock=some g) (x.drewN q) z→nv'.ownBlock=nv.ownBlock→∃ ad2 n2 cap2,nv' = .slice ad2 n2 cap2∧z.cell? ⟨p,o,none⟩=some nv∧z.frozen? ⟨p,o,none⟩=false∧z.cell? ⟨p,o+1,none⟩=some (.map (some mb)) ∧
   Hid (NumsAt z nv' ((delL l n).map (·.1))∧Far (fun g => nv.ownBlock=some g) x z∧nv'.ownBlock=nv.ownBlock∧z.heap[p]? = some (.cells arr t (0,0))):=by
  intro z nv' N' hF' hown
  obtain ⟨ad2,cap2,h2,_⟩:=(RowO.of_own N').shape
  have hFx:Far (fun g => nv.ownBlock=some g) x z:=(far_below (E:=fun g => nv.ownBlock=some g) (below_drewN (Below.refl _ _) q)).trans hF' (fun _ _ h => h)
  have hpb:=hFx.blk (unhide HS1).blk hnp
  exact ⟨ad2,_,cap2,h2,(blk_cell hpb).trans (unhide HS1).c0,by simp [World.frozen?,hpb],(blk_cell hpb).trans (unhide HS1).c1,hide ⟨N',hFx,hown,hpb⟩⟩
 clear d0 hdel hsearch
 go_upto_region 5 with (go_at_call 199;refine (unhide (unhide HD)).mono ?_;rintro e z ⟨nv',rfl,N',hF',hown⟩;obtain ⟨ad2,n2,cap2,rfl,z0,zf,z1,HZ⟩:=HDZ _ _ N' hF' hown;clear N' hF' hown)
 obtain ⟨vv,hvv⟩:∃ vv,vv=Value.slice ad2 n2 cap2:=⟨_,rfl⟩
 rw [← hvv] at HZ ⊢
 refine wp_world (fun Y => Y.heap[p]? = some (.cells (arr.setIfInBounds o vv) t (0,0))∧NumsAt Y vv ((delL l n).map (·.1))∧MapAt Y mb (look l)∧Far (fun g => g=p ∨ nv.ownBlock=some g) x Y) ?_ ?_
 ·obtain ⟨N',hF',hown,hpb⟩:=unhide HZ
  have hfs:=far_set z p o vv
  have hFY:Far (fun g => g=p ∨ nv.ownBlock=some g) x (z.setCell ⟨p,o,none⟩ vv):=(hF'.mono (fun _ _ h => .inr h)).trans hfs (fun _ _ h => .inl h)
  refine ⟨blk_set hpb,N'.keep (fun g hg => hfs.rest g (World.ownsRow.lt N' g hg).2 (fun e => hnp (by rw [← hown,hg,e]))),?_,hFY⟩
  have hM:MapAt x mb (look l):=by
   rcases (unhide HS1).sh.map with ⟨h,_⟩ | ⟨mb',h1,h2⟩
   ·cases h
   ·cases h1;exact h2
  exact hM.keep (hFY.rest mb hM.lt (fun e => e.elim (fun e => hmp e.symm) (fun e => hnm e)))
 have hvown:vv.ownBlock=nv.ownBlock:=(unhide HZ).2.2.1
 clear z0 zf z1 HZ HDZ HD hvv
 rintro Y ⟨hYp,hYn,hYm,hYF⟩
 have e1:Y.cell? ⟨p,o+1,none⟩=some (.map (some mb)):=by
  rw [blk_cell hYp,Array.getElem?_setIfInBounds_ne (by omega)]
  exact (unhide HS).c1
 obtain ⟨ob,hU,hM1⟩:=run_delete_i (P:=Tryz.prog) (w:=Y) (t:=117) (K':=3) Tryz.underlying117 Tryz.underlying3 hYm n
 have hU2:=fun ty => hU ty Y rfl
 have hyx:=hYF.size
 have hmY:=hYm.lt
 have HYP:=hide hYp
 have HYN:=hide hYn
 have HYM:=hide hM1
 have HYM0:=hide hYm
 have HYF:=hide hYF
 clear hYp hYn hYm hYF hU hM1
 go_upto_region 6 with fail
 have hnvl:∀ g,nv.ownBlock=some g→g < w.heap.size:=fun g hg => (unhide HS).sh.lt g (.inl hg)
 refine wp_world (fun Z => Z.heap[p]? = some (.cells (arr.setIfInBounds o vv) t (0,0))∧NumsAt Z vv ((delL l n).map (·.1))∧MapAt Z mb (delF (look l) n)∧Far (fun g => (g=p ∨ nv.ownBlock=some g) ∨ g=mb) x Z∧Z.heap[w.heap.size]? = some (.cells #[.string ⟨#[]⟩] 224 (0,0))∧Z.heap[w.heap.size+1]? = some (.cells #[.string b] 224 (0,0))) ?_ ?_
 ·have hfb:=far_block (w:=Y) mb ob
  have hF:=(unhide HYF).mono (E':=fun g => (g=p ∨ nv.ownBlock=some g) ∨ g=mb) (fun _ _ h => .inl h) |>.trans hfb (fun _ _ h => .inr h)
  have hfr:∀ g,w.heap.size ≤ g→¬ ((g=p ∨ nv.ownBlock=some g) ∨ g=mb):=by
   rintro g hg ((h | h) | h)
   ·omega
   ·have:=hnvl g h;omega
   ·omega
  refine ⟨hfb.blk (unhide HYP) hmp,(unhide HYN).keep (fun g hg => hfb.rest g (World.ownsRow.lt (unhide HYN) g hg).2 ?_),unhide HYM,hF,hF.blk (unhide H0) (hfr _ (Nat.le_refl _)),hF.blk (unhide H1) (hfr _ (by omega))⟩
  rintro rfl
  obtain ⟨cur,hc⟩:∃ cur,Y.heap[g]? = some (.cells cur 3 (0,0)):=by
   rcases (unhide HYN).cases with ⟨e,_⟩ | ⟨g',cap',cur',e,hh,_⟩
   ·rw [e] at hg;cases hg
   ·rw [e] at hg;cases hg;exact ⟨_,hh⟩
  exact (unhide HYM0).not_cells hc
 rintro Z ⟨hZp,hZn,hZm,hZF,hZ0,hZ1⟩
 have f0:Z.cell? ⟨w.heap.size,0,none⟩=some (.string ⟨#[]⟩):=blk_cell (i:=0) hZ0
 have f1:Z.cell? ⟨w.heap.size+1,0,none⟩=some (.string b):=blk_cell (i:=0) hZ1
 have ff:Z.frozen? ⟨w.heap.size,0,none⟩=false:=blk_free (i:=0) hZ0
 have HZP:=hide hZp
 have HZN:=hide hZn
 have HZM:=hide hZm
 have HZF:=hide hZF
 clear hZp hZn hZm hZF hZ0 hZ1 HYP HYN HYM HYF hU2 e1
 go_wp2
 refine bodyPost_ret (v:=.tuple #[.agg #[.string b],.bool true]) (by simp [results,Tryz.results204,go_sem,f0]) rfl ⟨rfl,?_⟩
 have hfs:=far_set Z w.heap.size 0 (.string b)
 have S:=unhide HS
 have hnp2:p ≠ w.heap.size:=by omega
 refine ⟨⟨vv,⟨hfs.blk (unhide HZP) hnp2,by simp [h0s],by rw [Array.getElem?_setIfInBounds_ne (by omega)];exact S.c1,⟨(unhide HZN).keep (fun g hg => hfs.rest g (World.ownsRow.lt (unhide HZN) g hg).2 (fun e => ?_)),.inr ⟨mb,rfl,?_⟩,?_,?_⟩,S.ty⟩,hvown⟩,?_⟩
 ·rw [hvown] at hg
  have:=hnvl g hg
  omega
 ·rw [delL_look S.sh.sorted n]
  exact (unhide HZM).keep (hfs.rest mb (unhide HZM).lt (by omega))
 ·exact S.sh.sorted.sublist ((delL_sub l n).map _)
 ·exact Nat.le_trans (delL_sub l n).length_le S.sh.len
 ·have hF1:Far (fun k => k=p ∨ ShU nv (.map (some mb)) k) w Z:=(far_below (E:=fun k => k=p ∨ ShU nv (.map (some mb)) k) (unhide HB)).trans (unhide HZF) (fun k _ h => by
   rcases h with (h | h) | h
   ·exact .inl h
   ·exact .inr (.inl h)
   ·exact .inr (.inr (by rw [h];rfl)))
  exact hF1.trans hfs (fun k hk h => by omega)
end Go.Proofs.YtamafdcnbcoegabGreat
namespace Go.Proofs.YtamafdcnbcoegabGreat
def OnSh (held:List (Nat × Nat × ByteArray)) (sh:Nat→List (Nat × Value)):Prop:=∀ s,s < 3→∀ (q:Nat) (b:ByteArray),look (sh s) (q:Int)=some (recS b) ↔ (s,q,b) ∈ held
structure SkMore (a:Mod.Sk):Prop where
 bod:∀ h ∈ a.held,h.2.2.size ≤ 20
 nxt:a.count < 120→∀ s,s < 3→∀ b,(s,(a.logs s).length+1,b) ∉ a.held
theorem ixFrom_mem {st q:Nat}:∀ {l:List (Nat × Nat × ByteArray)} {i k:Nat},Mod.ixFrom st q i l=some k→∃ (h:k - i < l.length),l[k - i].1=st∧l[k - i].2.1=q∧i ≤ k
 | [],_,_,h => by simp [Mod.ixFrom] at h
 | x :: l,i,k,h => by
  rw [Mod.ixFrom] at h
  split at h
  ·rename_i hx
   injection h with h
   subst h
   simpa using hx
  ·obtain ⟨h1,h2,h3,h4⟩:=ixFrom_mem h
   have e:k - i=(k - (i+1))+1:=by omega
   simp only [e]
   exact ⟨by simp;omega,by simpa using h2,by simpa using h3,by omega⟩
theorem ixFrom_none_mem {st q:Nat}:∀ {l:List (Nat × Nat × ByteArray)} {i:Nat},Mod.ixFrom st q i l=none→∀ b,(st,q,b) ∉ l
 | [],_,_ => by simp
 | x :: l,i,h => by
  rw [Mod.ixFrom] at h
  split at h
  ·cases h
  ·rename_i hx
   intro b hb
   cases hb with
   | head => exact hx ⟨rfl,rfl⟩
   | tail _ hb => exact ixFrom_none_mem h b hb
theorem ix_some {a:Mod.Sk} {st q i:Nat} (h:a.ix st q=some i):(st,q,(a.held.getD i (0,0,⟨#[]⟩)).2.2) ∈ a.held:=by
 obtain ⟨h1,h2,h3,h4⟩:=ixFrom_mem h
 simp only [Nat.sub_zero] at h1 h2 h3
 rw [List.getD_eq_getElem?_getD,List.getElem?_eq_getElem h1,Option.getD_some]
 have:=List.getElem_mem h1
 rw [show (st,q,a.held[i].2.2)=a.held[i] by rw [← h2,← h3]]
 exact this
theorem ix_none {a:Mod.Sk} {st q:Nat} (h:a.ix st q=none):∀ b,(st,q,b) ∉ a.held:=ixFrom_none_mem h
theorem once_body {a:Mod.Sk} (G:SkGood a) {s q:Nat} {b b':ByteArray} (h:(s,q,b) ∈ a.held) (h':(s,q,b') ∈ a.held):b=b':=by
 have hn:=G.once
 have:∀ (l:List (Nat × Nat × ByteArray)),(l.map fun h => (h.1,h.2.1)).Nodup→(s,q,b) ∈ l→(s,q,b') ∈ l→b=b':=by
  intro l
  induction l with
  | nil => intro _ h;cases h
  | cons x r ih =>
   intro hn h h'
   rw [List.map_cons,List.nodup_cons] at hn
   cases h with
   | head =>
    cases h' with
    | head => rfl
    | tail _ h' => exact absurd (List.mem_map.2 ⟨_,h',rfl⟩) hn.1
   | tail _ h =>
    cases h' with
    | head => exact absurd (List.mem_map.2 ⟨_,h,rfl⟩) hn.1
    | tail _ h' => exact ih hn.2 h h'
 exact this a.held hn h h'
structure InCm (a:Mod.Sk) (s q:Nat) (b:ByteArray) (out:List ByteArray) (sh:Nat→List (Nat × Value)):Prop where
 on:∀ t,t < 3→∀ (n:Nat) (c:ByteArray),look (sh t) (n:Int)=some (recS c) ↔ ((t,n,c) ∈ a.held∧(t=s→(a.logs s).length+out.length < n))
 are:∀ t,t < 3→AreS (sh t)
 pos:0 < out.length
 len:a.count+out.length ≤ 120
 run:a.commitFrom s q a.count (121 - out.length) out=a.commitFrom s q a.count 120 [b]
 bod:∀ c ∈ out,c.size ≤ 20
theorem inCm_start {a:Mod.Sk} {sh:Nat→List (Nat × Value)} (G:SkGood a) (M:SkMore a) (O:OnSh a.held sh) (A:∀ t,t < 3→AreS (sh t)) (s:Nat) (b:ByteArray) (hs:s < 3) (hb:b.size ≤ 20) (hroom:a.count < 120):InCm a s ((a.logs s).length+1) b [b] sh:=by
 refine ⟨fun t ht n c => ?_,A,by simp,by simp;omega,by simp,by simpa using hb⟩
 rw [O t ht n c]
 constructor
 ·intro h
  refine ⟨h,fun e => ?_⟩
  subst e
  have h1:=(G.held _ h).2.1
  have h2:=M.nxt hroom t ht c
  simp only [List.length_singleton] at h1 ⊢
  rcases Nat.lt_or_ge ((a.logs t).length+1) n with h3 | h3
  ·exact h3
  ·have:n=(a.logs t).length+1:=by omega
   subst this
   exact absurd h h2
 ·exact fun h => h.1
theorem inCm_next {a:Mod.Sk} {s:Nat} {b:ByteArray} {out:List ByteArray} {sh:Nat→List (Nat × Value)} (G:SkGood a) (M:SkMore a) (hs:s < 3) (I:InCm a s ((a.logs s).length+1) b out sh) (hroom:a.count+out.length < 120) {c:ByteArray} (hsort:((sh s).map (·.1)).Pairwise (· < ·))
  (hl:look (sh s) (((a.logs s).length+out.length+1:Nat):Int)=some (recS c)) :
  InCm a s ((a.logs s).length+1) b (out ++ [c]) (fun t => if t=s then delL (sh s) ((a.logs s).length+out.length+1) else sh t):=by
 have hm:=((I.on s hs _ c).1 hl).1
 refine ⟨fun t ht n d => ?_,fun t ht => ?_,by simp,by simp;omega,?_,?_⟩
 ·by_cases e:t=s
  ·subst e
   rw [if_pos rfl,delL_look hsort]
   unfold delF
   by_cases h1:(n:Int)=(((a.logs t).length+out.length+1:Nat):Int)
   ·rw [if_pos h1]
    simp
    intro _
    omega
   ·rw [if_neg h1,I.on t ht n d]
    simp
    intro _
    omega
  ·rw [if_neg e,I.on t ht n d]
   simp [e]
 ·show AreS (if t=s then _ else sh t)
  by_cases e:t=s
  ·rw [if_pos e]
   exact fun x hx => I.are s hs x ((delL_sub _ _).subset hx)
  ·rw [if_neg e]
   exact I.are t ht
 ·rw [← I.run]
  have hlen:(out ++ [c]).length=out.length+1:=by simp
  rw [hlen]
  have hf:121 - out.length=(121 - (out.length+1))+1:=by have:=I.len;omega
  rw [hf]
  have hq:(a.logs s).length+1+out.length=(a.logs s).length+out.length+1:=by omega
  cases hi:a.ix s ((a.logs s).length+1+out.length) with
  | none =>
   have:=ix_none hi c
   rw [hq] at this
   exact absurd hm this
  | some i =>
   rw [Mod.Sk.commitFrom_some hroom hi]
   have h2:=ix_some hi
   rw [hq] at h2
   rw [once_body G hm h2]
 ·intro d hd
  rw [List.mem_append,List.mem_singleton] at hd
  rcases hd with hd | rfl
  ·exact I.bod d hd
  ·exact M.bod _ hm
theorem inCm_stop {a:Mod.Sk} {s:Nat} {b:ByteArray} {out:List ByteArray} {sh:Nat→List (Nat × Value)} (hs:s < 3) (I:InCm a s ((a.logs s).length+1) b out sh)
  (h:¬ a.count+out.length < 120 ∨ look (sh s) (((a.logs s).length+out.length+1:Nat):Int)=none):out=a.commitFrom s ((a.logs s).length+1) a.count 120 [b]:=by
 rw [← I.run]
 rcases h with h | h
 ·exact (Mod.Sk.commitFrom_stop h).symm
 ·by_cases hr:a.count+out.length < 120
  ·refine (Mod.Sk.commitFrom_none hr ?_).symm
   cases hi:a.ix s ((a.logs s).length+1+out.length) with
   | none => rfl
   | some i =>
    have h2:=ix_some hi
    rw [show (a.logs s).length+1+out.length=(a.logs s).length+out.length+1 by omega] at h2
    have:=(I.on s hs _ _).2 ⟨h2,fun _ => by omega⟩
    rw [h] at this
    cases this
  ·exact (Mod.Sk.commitFrom_stop hr).symm
theorem inCm_on {a:Mod.Sk} {s:Nat} {b:ByteArray} {out:List ByteArray} {sh:Nat→List (Nat × Value)} (I:InCm a s ((a.logs s).length+1) b out sh):OnSh (takeIt a s out).held sh:=by
 intro t ht n c
 rw [I.on t ht n c]
 show _ ↔ _ ∈ (a.held.filter (Mod.keeps s (a.logs s ++ out).length))
 rw [List.mem_filter,List.length_append]
 unfold Mod.keeps
 by_cases e:t=s
 ·subst e;simp
 ·simp [e]
end Go.Proofs.YtamafdcnbcoegabGreat
namespace Go.Proofs.YtamafdcnbcoegabGreat
open Go.RowKit
section
variable {w x y:World} {p e e2:Nat} {logs logs2:Nat→List ByteArray} {sh sh2:Nat→List (Nat × Value)} {st st2:Mod.Stv} {c:Sv}
theorem pkStep_refl (H:PkAt w p e logs sh st c):PkStep w w p e logs sh st c:=⟨c,H,Far.refl _ _,fun _ h => .inl h,rfl,rfl⟩
theorem PkStep.trans (h:PkStep w x p e logs sh st c) (h':∀ c',PkAt x p e logs sh st c' → PkStep x y p e2 logs2 sh2 st2 c'):PkStep w y p e2 logs2 sh2 st2 c:=by
 obtain ⟨c1,h1,h2,h3,h4,h5⟩:=h
 obtain ⟨c2,k1,k2,k3,k4,k5⟩:=h' c1 h1
 refine ⟨c2,k1,h2.trans k2 (fun k hk hu => (h3 k hu).elim id (fun h => by omega)),fun k hk => ?_,k4.trans h4,k5.trans h5⟩
 rcases k3 k hk with h | h
 ·exact h3 k h
 ·exact .inr (Nat.le_trans h2.size h)
theorem PkStep.below (h:PkStep w x p e logs sh st c) (hb:Below x.heap.size x y):PkStep w y p e logs sh st c :=
 h.trans (fun c' H => ⟨c',H.far (far_below (E:=fun _ => False) hb) (fun _ _ h => h),far_below hb,fun _ h => .inl h,rfl,rfl⟩)
theorem PkAt.shAt (H:PkAt w p e logs sh st c) {i:Nat} (hi:i < 3):ShAt w p (2+i * 3+1) 125 c.arr (c.nv i) (c.mv i) (sh i) :=
 ⟨H.ks.blk,H.ks.an i hi,H.ks.am i hi,H.ks.shs i hi,by decide⟩
theorem pkAt_sh (H:PkAt w p e logs sh st c) {i:Nat} (hi:i < 3) {l':List (Nat × Value)} {nv' mv':Value} (S:ShAt x p (2+i * 3+1) 125 ((c.arr.setIfInBounds (2+i * 3+1) nv').setIfInBounds (2+i * 3+1+1) mv') nv' mv' l') (hn:Loc w (c.nv i) nv')
  (hm:mapBlock mv' = mapBlock (c.mv i) ∨ ∃ g,mapBlock mv' = some g∧w.heap.size ≤ g) (hF:Far (fun k => k=p ∨ ShU (c.nv i) (c.mv i) k) w x) (A:AreS l') :
  PkAt x p e logs (fun t => if t=i then l' else sh t) st { c with arr:=(c.arr.setIfInBounds (2+i * 3+1) nv').setIfInBounds (2+i * 3+1+1) mv',nv:=fun t => if t=i then nv' else c.nv t,mv:=fun t => if t=i then mv' else c.mv t } ∧
   (∀ k,ShU nv' mv' k→ShU (c.nv i) (c.mv i) k ∨ w.heap.size ≤ k):=by
 have hFU:∀ k,(k=p ∨ ShU (c.nv i) (c.mv i) k)→KsU p c.lv c.nv c.mv k:=fun k hk => hk.elim .inl (fun h => .inr (.inr ⟨i,hi,h⟩))
 have hst:=H.stt.far hF (fun k hk h => H.sep k (hFU k h) hk)
 have hrl:=H.rl.far hF (fun g hg h => (H.sepr g hg).1 (hFU g h))
 have hsz:=H.ks.sz
 have hget:∀ j,j ≠ 2+i * 3+1→j ≠ 2+i * 3+2→((c.arr.setIfInBounds (2+i * 3+1) nv').setIfInBounds (2+i * 3+1+1) mv')[j]? = c.arr[j]?:=fun j h1 h2 => by
  rw [Array.getElem?_setIfInBounds_ne (by omega),Array.getElem?_setIfInBounds_ne (by omega)]
 have hnew:∀ k,ShU nv' mv' k→ShU (c.nv i) (c.mv i) k ∨ w.heap.size ≤ k:=by
  rintro k (hk | hk)
  ·rcases hn with h | h | ⟨g,h,hg⟩
   ·rw [h] at hk;cases hk
   ·exact .inl (.inl (by rw [← h];exact hk))
   ·rw [h] at hk;cases hk;exact .inr hg
  ·rcases hm with h | ⟨g,h,hg⟩
   ·exact .inl (.inr (by rw [← h];exact hk))
   ·rw [h] at hk;cases hk;exact .inr hg
 refine ⟨⟨⟨S.blk,by simpa using hsz,?_,?_,?_,?_,?_,?_,?_,?_,?_,H.ks.apl,?_,H.ks.cnt,H.ks.ep⟩,hst,hrl,H.len⟩,hnew⟩
 ·rw [hget _ (by omega) (by omega)];exact H.ks.a0
 ·rw [hget _ (by omega) (by omega)];exact H.ks.a1
 ·intro j hj;rw [hget _ (by omega) (by omega)];exact H.ks.al j hj
 ·intro j hj
  show _=some (if j=i then nv' else c.nv j)
  by_cases e:j=i
  ·subst e;rw [if_pos rfl];exact S.c0
  ·rw [if_neg e,hget _ (by omega) (by omega)];exact H.ks.an j hj
 ·intro j hj
  show _=some (if j=i then mv' else c.mv j)
  by_cases e:j=i
  ·subst e;rw [if_pos rfl];exact S.c1
  ·rw [if_neg e,hget _ (by omega) (by omega)];exact H.ks.am j hj
 ·rw [hget _ (by omega) (by omega)];exact H.ks.ar
 ·intro j hj
  refine (H.ks.lgs j hj).far hF (fun g hg h => ?_)
  obtain ⟨cur,hc⟩:=row_cells (H.ks.lgs j hj) hg
  rcases h with h | h
  ·exact (H.ks.lgs j hj).ne H.ks.blk (by decide) (by rw [hg,h])
  ·exact (H.ks.shs i hi).ne hc (by decide) h
 ·intro j hj
  show ShelfIs x (if j=i then nv' else c.nv j) (if j=i then mv' else c.mv j) (if j=i then l' else sh j)
  by_cases e:j=i
  ·rw [if_pos e,if_pos e,if_pos e];exact S.sh
  ·rw [if_neg e,if_neg e,if_neg e]
   refine (H.ks.shs j hj).far hF (fun k hk h => ?_)
   rcases h with h | h
   ·exact (H.ks.shs j hj).ne H.ks.blk (by decide) (by rw [← h];exact hk)
   ·exact H.ks.aps j i hj hi e k hk h
 ·intro j hj
  show AreS (if j=i then l' else sh j)
  by_cases e:j=i
  ·rw [if_pos e];exact A
  ·rw [if_neg e];exact H.ks.are j hj
 ·intro j j2 hj hj2 hne k hk
  replace hk:ShU (if j=i then nv' else c.nv j) (if j=i then mv' else c.mv j) k:=hk
  show ¬ ShU (if j2=i then nv' else c.nv j2) (if j2=i then mv' else c.mv j2) k
  by_cases h1:j=i
  ·subst h1
   rw [if_pos rfl,if_pos rfl] at hk
   rw [if_neg (fun e => hne e.symm),if_neg (fun e => hne e.symm)]
   intro hk2
   rcases hnew k hk with h | h
   ·exact H.ks.aps j j2 hj hj2 hne k h hk2
   ·have:=(H.ks.shs j2 hj2).lt k hk2;omega
  ·rw [if_neg h1,if_neg h1] at hk
   by_cases h2:j2=i
   ·subst h2
    rw [if_pos rfl,if_pos rfl]
    intro hk2
    rcases hnew k hk2 with h | h
    ·exact H.ks.aps j j2 hj hj2 hne k hk h
    ·have:=(H.ks.shs j hj).lt k hk;omega
   ·rw [if_neg h2,if_neg h2]
    exact H.ks.aps j j2 hj hj2 hne k hk
theorem pkStep_sh (H:PkAt w p e logs sh st c) {i:Nat} (hi:i < 3) {l':List (Nat × Value)} (h:ShStep w x p (2+i * 3+1) 125 c.arr (c.nv i) (c.mv i) l') (A:AreS l') :
  PkStep w x p e logs (fun t => if t=i then l' else sh t) st c:=by
 obtain ⟨⟨nv',mv',S,hn,hm⟩,hF⟩:=h
 have hFU:∀ k,(k=p ∨ ShU (c.nv i) (c.mv i) k)→KsU p c.lv c.nv c.mv k:=fun k hk => hk.elim .inl (fun h => .inr (.inr ⟨i,hi,h⟩))
 obtain ⟨hP,hnew⟩:=pkAt_sh H hi S hn hm hF A
 refine ⟨_,hP,?_,?_,rfl,rfl⟩
 ·exact hF.mono (fun k _ h => .inl (hFU k h))
 ·rintro k ((rfl | hk | ⟨j,hj,hk⟩) | hk | hk)
  ·exact .inl (.inl (.inl rfl))
  ·exact .inl (.inl (.inr (.inl hk)))
  ·have hk:ShU (if j=i then nv' else c.nv j) (if j=i then mv' else c.mv j) k:=hk
   by_cases e:j=i
   ·rw [if_pos e,if_pos e] at hk
    exact (hnew k hk).elim (fun h => .inl (.inl (.inr (.inr ⟨i,hi,h⟩)))) .inr
   ·rw [if_neg e,if_neg e] at hk
    exact .inl (.inl (.inr (.inr ⟨j,hj,hk⟩)))
  ·exact .inl (.inr (.inl hk))
  ·exact .inl (.inr (.inr hk))
def TkAt (w z:World) (p e:Nat) (logs:Nat→List ByteArray) (sh:Nat→List (Nat × Value)) (st:Mod.Stv) (c:Sv):Prop :=
 ∃ c',PkAt z p e logs sh st c' ∧ (∀ k,PkU p c' k→PkU p c k)∧Far (PkU p c) w z∧c'.s=c.s∧c'.rv=c.rv
theorem TkAt.far {E:Nat→Prop} (h:TkAt w x p e logs sh st c) (hlt:∀ k,PkU p c k→k < w.heap.size) (hF:Far E x y) (hE:∀ k,E k→w.heap.size ≤ k):TkAt w y p e logs sh st c:=by
 obtain ⟨c',h1,h2,h3,h4,h5⟩:=h
 exact ⟨c',h1.far hF (fun k hk e => by have:=hlt k (h2 k hk);have:=hE k e;omega),h2,h3.trans hF (fun k hk e => by have:=hE k e;omega),h4,h5⟩
theorem tkAt_took (H:PkAt w p e logs sh st c) {i:Nat} (hi:i < 3) {l':List (Nat × Value)} (h:ShTook w x p (2+i * 3+1) 125 c.arr (c.nv i) (c.mv i) l') (A:AreS l') :
  TkAt w x p e logs (fun t => if t=i then l' else sh t) st c:=by
 obtain ⟨⟨nv',S,hown⟩,hF⟩:=h
 have e2:(c.arr.setIfInBounds (2+i * 3+1) nv').setIfInBounds (2+i * 3+1+1) (c.mv i)=c.arr.setIfInBounds (2+i * 3+1) nv':=set_same (by rw [Array.getElem?_setIfInBounds_ne (by omega)];exact H.ks.am i hi)
 obtain ⟨hP,_⟩:=pkAt_sh (nv':=nv') (mv':=c.mv i) H hi (by rw [e2];exact S) (.inr (.inl hown)) (.inl rfl) hF A
 have hsu:∀ k,ShU nv' (c.mv i) k→ShU (c.nv i) (c.mv i) k:=fun k hk => hk.elim (fun h => .inl (by rw [← hown];exact h)) .inr
 refine ⟨_,hP,?_,hF.mono (fun k _ h => .inl (h.elim .inl (fun h => .inr (.inr ⟨i,hi,h⟩)))),rfl,rfl⟩
 rintro k ((rfl | hk | ⟨j,hj,hk⟩) | hk | hk)
 ·exact .inl (.inl rfl)
 ·exact .inl (.inr (.inl hk))
 ·have hk:ShU (if j=i then nv' else c.nv j) (if j=i then c.mv i else c.mv j) k:=hk
  by_cases e:j=i
  ·rw [if_pos e,if_pos e] at hk
   exact .inl (.inr (.inr ⟨i,hi,hsu k hk⟩))
  ·rw [if_neg e,if_neg e] at hk
   exact .inl (.inr (.inr ⟨j,hj,hk⟩))
 ·exact .inr (.inl hk)
 ·exact .inr (.inr hk)
end
def Sound (st:Mod.Stv):Prop:=st.dk.dead=false∧st.dk.armed=0
theorem sound_rec {st:Mod.Stv} (h:Sound st) (n i q:Nat) (b:List UInt8):(st.putRecord n i q b).1=0∧Sound (st.putRecord n i q b).2:=by
 obtain ⟨h1,h2⟩:=h
 unfold Mod.Stv.putRecord Mod.Dk.put Sound
 simp [h1,h2]
theorem sound_num {st:Mod.Stv} (h:Sound st) (a b d:Nat):(st.putNumbers a b d).1=0∧Sound (st.putNumbers a b d).2:=by
 obtain ⟨h1,h2⟩:=h
 unfold Mod.Stv.putNumbers Mod.Dk.put Sound
 simp [h1,h2]
end Go.Proofs.YtamafdcnbcoegabGreat
namespace Go.Proofs.YtamafdcnbcoegabGreat
open Go.RowKit
def skey (o:Oper):Tmp:=match o.dst with
 | some d => d
 | none => match o.op with
  | .store _ (.tmp t) _ => t
  | _ => 0
def keyVal (o:Oper) (a:Act) (v:Value):Value:=match o.dst with
 | some _ => v
 | none => a.tmps.getD (skey o) undef
def keyOk (ops:Array Oper):Bool:=(List.range ops.size).all fun k => match ops[k]? with
 | none => true
 | some o => match o.dst with
  | some _ => true
  | none => match wr ops (skey o) with
   | none => true
   | some j => depB ops k j
theorem keyOk_spec {ops:Array Oper} (h:keyOk ops=true) {k j:Nat} {o:Oper} (ho:ops[k]? = some o) (hd:o.dst=none) (hj:wr ops (skey o)=some j):depB ops k j=true:=by
 unfold keyOk at h
 have:=List.all_eq_true.1 h k (List.mem_range.2 (Array.getElem?_eq_some_iff.1 ho).1)
 rw [ho] at this
 simp only [hd,hj] at this
 exact this
section
variable {P:Program} {ops:Array Oper} {Q:Exit→Act→World→Prop}
structure KeyInv (ops:Array Oper) (Φ:Nat→Value→World→Prop) (E:Nat→Nat→Prop) (a0:Act) (w0:World) (L:Array Bool) (a:Act) (w:World):Prop where
 size:L.size=ops.size
 ext:Far (fun b => ∃ k,L.getD k false=true∧E k b) w0 w
 closed:∀ k,L.getD k false=true→∀ j,depB ops k j=true→L.getD j false=true
 vals:∀ i o,ops[i]? = some o→L.getD i false=true→Φ i (a.tmps.getD (skey o) undef) w
 rest:∀ t,(∀ j,wr ops t=some j→L.getD j false=false)→a.tmps.getD t undef=a0.tmps.getD t undef
 defers:a.defers=a0.defers
 tsize:a.tmps.size=a0.tmps.size
theorem mono_key {a0:Act} {w0:World} (Φ:Nat→Value→World→Prop) (E:Nat→Nat→Prop) (xw:Nat) (X:World→World→Prop) (hXr:∀ w,X w w) (hok:monoOk ops a0.tmps.size=true) (hkey:keyOk ops=true)
  (hst:∀ i j v w w',i ≠ j→depB ops j i=false→Φ j v w→Far (E i) w w' → (i=xw→X w w')→Φ j v w')
  (hop:∀ i o,ops[i]? = some o→∀ a w,Far (fun b => ∃ k,k ≠ i∧depB ops k i=false∧E k b) w0 w→GoodAct ops Φ a0 i o a w →
   if Region.wanted o (yielded ops a.tmps)=true then o.wp P a w (fun a' w' => ∃ v,a' = a.put o.dst v∧Far (E i) w w' ∧ Φ i (keyVal o a v) w' ∧ (i=xw→X w w')) Q else Φ i (keyVal o a undef) w)
  (hend:∀ a w,Far (fun b => ∃ k,E k b) w0 w→(∀ i o,ops[i]? = some o→Φ i (a.tmps.getD (skey o) undef) w)→(∀ t,wr ops t=none→a.tmps.getD t undef=a0.tmps.getD t undef)→a.defers=a0.defers→a.tmps.size=a0.tmps.size→Q .normal a w) :
  ∀ (fuel:Nat) (L:Array Bool) (a:Act) (w:World),KeyInv ops Φ E a0 w0 L a w→(List.range ops.size).countP (fun i => !L.getD i false) ≤ fuel→wpAny P .any ops Q fuel L a w:=by
 have hrdy:∀ (L:Array Bool) (a:Act) (w:World),KeyInv ops Φ E a0 w0 L a w→Region.ready .any ops L = [] → Q .normal a w:=by
  intro L a w hI hr
  have hall:∀ n i,i < n→i < ops.size→L.getD i false=true:=by
   intro n
   induction n with
   | zero => intro i h;omega
   | succ n ih =>
    intro i h hi
    by_cases hin:i < n
    ·exact ih i hin hi
    ·have e:i=n:=by omega
     subst e
     cases hL:L.getD i false
     ·exfalso
      have ho:ops[i]? = some ops[i]:=Array.getElem?_eq_getElem hi
      obtain ⟨_,_,h3⟩:=monoOk_spec hok ho
      have:i ∈ Region.ready .any ops L:=mem_ready.2 ⟨by
       have hs:i < L.size:=by rw [hI.size];exact hi
       rw [Array.getD_eq_getD_getElem?,Array.getElem?_eq_getElem hs] at hL ⊢
       exact hL,ops[i],ho,fun e he hb => by
       have hd:depB ops i e.on=true:=by
        unfold depB
        rw [ho]
        exact Array.any_eq_true'.2 ⟨e,he,by simp [hb]⟩
       have hlt:=h3 _ hd
       exact ih e.on hlt (by omega)⟩
      rw [hr] at this
      cases this
     ·rfl
  refine hend a w (hI.ext.mono (fun b _ h => h.imp fun k h => h.2)) (fun i o ho => hI.vals i o ho (hall ops.size i (Array.getElem?_eq_some_iff.1 ho).1 (Array.getElem?_eq_some_iff.1 ho).1)) (fun t ht => hI.rest t (fun j hj => by rw [ht] at hj;cases hj)) hI.defers hI.tsize
 intro fuel
 induction fuel with
 | zero =>
  intro L a w hI hc
  have hr:Region.ready .any ops L = []:=by
   apply List.eq_nil_iff_forall_not_mem.2
   intro i hi
   obtain ⟨h0,o,ho,_⟩:=mem_ready.1 hi
   have hlt:i < ops.size:=(Array.getElem?_eq_some_iff.1 ho).1
   have h0':L.getD i false=false:=by
    have hs:i < L.size:=by rw [hI.size];exact hlt
    rw [Array.getD_eq_getD_getElem?,Array.getElem?_eq_getElem hs] at h0 ⊢
    exact h0
   have:0 < (List.range ops.size).countP (fun i => !L.getD i false):=List.countP_pos_iff.2 ⟨i,List.mem_range.2 hlt,by simp [h0']⟩
   omega
  exact ⟨hr,hrdy L a w hI hr⟩
 | succ fuel ih =>
  intro L a w hI hc
  refine ⟨hrdy L a w hI,fun i hi => ?_⟩
  obtain ⟨h0,o,ho,hdeps⟩:=mem_ready.1 hi
  have hlt:i < ops.size:=(Array.getElem?_eq_some_iff.1 ho).1
  have hls:i < L.size:=by rw [hI.size];exact hlt
  have h0':L.getD i false=false:=by
   rw [Array.getD_eq_getD_getElem?,Array.getElem?_eq_getElem hls] at h0 ⊢
   exact h0
  obtain ⟨hd,hl,hlex⟩:=monoOk_spec hok ho
  have hdl:∀ j,depB ops i j=true→L.getD j false=true:=by
   intro j hj
   unfold depB at hj
   rw [ho] at hj
   obtain ⟨e,he,hb⟩:=Array.any_eq_true'.1 hj
   simp only [Bool.and_eq_true,beq_iff_eq] at hb
   rw [← hb.2];exact hdeps e he hb.1
  have hgood:GoodAct ops Φ a0 i o a w:=by
   intro t ht
   cases hw:wr ops t with
   | none => exact hI.rest t (fun j hj => by rw [hw] at hj;cases hj)
   | some j =>
    simp only []
    have hj:=List.find?_some hw
    simp only [beq_iff_eq] at hj
    split
    ·rename_i hdep
     cases hoj:ops[j]? with
     | none => rw [hoj] at hj;cases hj
     | some oj =>
      rw [hoj] at hj
      have hvv:=hI.vals j oj hoj (hdl j hdep)
      have hj':oj.dst=some t:=hj
      have hk':skey oj=t:=by unfold skey;rw [hj']
      rw [hk'] at hvv
      exact hvv
    ·rename_i hdep
     refine hI.rest t (fun j' hj' => ?_)
     rw [hw] at hj'
     cases hj'
     rcases hl t ht j hw with h | h
     ·exact absurd h hdep
     ·cases hLj:L.getD j false
      ·rfl
      ·have:=hI.closed j hLj i h
       rw [h0'] at this;cases this
  have hstep:∀ v w',Far (E i) w w' → (i=xw→X w w')→Φ i (keyVal o a v) w' → KeyInv ops Φ E a0 w0 (L.setIfInBounds i true) (a.put o.dst v) w':=by
   intro v w' hb hx hv
   have hget:∀ k,(L.setIfInBounds i true).getD k false=true ↔ (k=i ∨ L.getD k false=true):=by
    intro k
    by_cases hk:k=i
    ·subst hk
     simp [Array.getD_eq_getD_getElem?,hls]
    ·rw [getD_set_ne false (fun e => hk e.symm)]
     simp [hk]
   have hput:∀ t,(a.put o.dst v).tmps.getD t undef=if o.dst=some t then v else a.tmps.getD t undef:=by
    intro t
    cases hdst:o.dst with
    | none => simp [Act.put]
    | some d =>
     simp only [Act.put,Option.some.injEq]
     have hdsz:d < a.tmps.size:=by rw [hI.tsize];exact (hd d hdst).1
     by_cases h:d=t
     ·subst h
      simp [Array.getD_eq_getD_getElem?,hdsz]
     ·simp [Array.getD_eq_getD_getElem?,h]
   refine ⟨by simp [hI.size],(hI.ext.mono (fun b _ h => by obtain ⟨k,h1,h2⟩:=h;exact ⟨k,(hget k).2 (.inr h1),h2⟩)).trans hb (fun b _ h => ⟨i,(hget i).2 (.inl rfl),h⟩),?_,?_,?_,?_,?_⟩
   ·intro k hk j hj
    rw [hget] at hk ⊢
    rcases hk with rfl | hk
    ·exact .inr (hdl j hj)
    ·exact .inr (hI.closed k hk j hj)
   ·intro k ok hok' hk
    rw [hget] at hk
    rcases hk with rfl | hk
    ·rw [ho] at hok';cases hok'
     unfold keyVal at hv
     cases hdst:o.dst with
     | none =>
      rw [hdst] at hv
      have hp:=hput (skey o)
      rw [if_neg (by rw [hdst];simp),hdst] at hp
      rw [hp];exact hv
     | some d =>
      rw [hdst] at hv
      have hs:skey o=d:=by unfold skey;rw [hdst]
      have hp:=hput d
      rw [if_pos hdst,hdst] at hp
      rw [hs,hp];exact hv
    ·have hki:i ≠ k:=by
      intro e
      subst e
      rw [h0'] at hk;cases hk
     have hnd:depB ops k i=false:=by
      cases hd:depB ops k i with
      | false => rfl
      | true =>
       have:=hI.closed k hk i hd
       rw [h0'] at this;cases this
     have hvk:=hst i k _ _ _ hki hnd (hI.vals k ok hok' hk) hb hx
     have hne:o.dst ≠ some (skey ok):=by
      intro e
      have h1:=(hd _ e).2
      cases hdk:ok.dst with
      | some d =>
       have hs:skey ok=d:=by unfold skey;rw [hdk]
       have h2:=((monoOk_spec hok hok').1 d hdk).2
       rw [hs,h2] at h1
       cases h1
       exact hki rfl
      | none =>
       have:=keyOk_spec hkey hok' hdk h1
       rw [this] at hnd;cases hnd
     rw [hput,if_neg hne]
     exact hvk
   ·intro t ht
    rw [hput]
    have hne:o.dst ≠ some t:=by
     intro e
     have:=ht i (hd t e).2
     have h2:=(hget i).2 (.inl rfl)
     rw [this] at h2;cases h2
    rw [if_neg hne]
    refine hI.rest t (fun j hj => ?_)
    cases hLj:L.getD j false
    ·rfl
    ·have:=ht j hj
     rw [(hget j).2 (.inr hLj)] at this;cases this
   ·cases o.dst <;> exact hI.defers
   ·rw [← hI.tsize];cases o.dst <;> simp [Act.put]
  have hcount:(List.range ops.size).countP (fun k => !(L.setIfInBounds i true).getD k false) ≤ fuel:=by
   have:=countP_lt (l:=List.range ops.size) (p:=fun k => !L.getD k false) (q:=fun k => !(L.setIfInBounds i true).getD k false)
    (fun k _ hk => by
     by_cases hki:k=i
     ·subst hki;simp [h0']
     ·rw [getD_set_ne false (fun e => hki e.symm)] at hk;exact hk)
    ⟨i,List.mem_range.2 hlt,by simp [h0'],by simp [Array.getD_eq_getD_getElem?,hls]⟩
   omega
  have hg:=hop i o ho a w (hI.ext.mono (fun b _ h => by
   obtain ⟨k,h1,h2⟩:=h
   refine ⟨k,fun e => ?_,?_,h2⟩
   ·subst e;rw [h0'] at h1;cases h1
   ·cases hd:depB ops k i with
    | false => rfl
    | true =>
     have:=hI.closed k h1 i hd
     rw [h0'] at this;cases this)) hgood
  unfold wpOp
  rw [ho]
  simp only []
  split at hg
  ·rename_i hw
   rw [if_pos hw]
   refine .inl (Oper.wp_mono ?_ hg)
   rintro a' w' ⟨v,rfl,hb,hv,hx⟩
   exact ih _ _ _ (hstep v w' hb hx hv) hcount
  ·rename_i hw
   rw [if_neg hw]
   exact ih _ _ _ (hstep undef w (Far.refl _ _) (fun _ => hXr w) hg) hcount
def StableX (E:Nat→Prop) (X:World→World→Prop) (φ:Value→World→Prop):Prop:=∀ v w w',φ v w→Far E w w' → X w w' → φ v w'
theorem stableX_of {E:Nat→Prop} {X:World→World→Prop} {φ:Value→World→Prop} (h:StableF E φ):StableX E X φ:=fun v w w' h1 h2 _ => h v w w' h1 h2
def StableButX (ops:Array Oper) (i:Nat) (E:Nat→Prop) (X:World→World→Prop):Nat→List (Value→World→Prop)→Prop
 | _,[] => True
 | j,φ :: r => (i=j ∨ depB ops j i=true ∨ StableX E X φ)∧StableButX ops i E X (j+1) r
def AllStableX (ops:Array Oper) (L:List (Value→World→Prop)) (xw:Nat) (X:World→World→Prop):List (Nat × (Nat→Prop))→Prop
 | [] => True
 | p :: r => StableButX ops p.1 p.2 (fun w w' => p.1=xw→X w w') 0 L∧AllStableX ops L xw X r
theorem stableButX_get {ops:Array Oper} {i:Nat} {E:Nat→Prop} {X:World→World→Prop}:∀ {L:List (Value→World→Prop)} {s:Nat},StableButX ops i E X s L→∀ j,i ≠ s+j→depB ops (s+j) i=false→StableX E X (L.getD j (fun _ _ => True))
 | [],_,_,_,_,_ => fun _ _ _ _ _ _ => by simp
 | φ :: r,s,h,0,hne,hd => by
  rcases h.1 with h | h | h
  ·exact absurd h hne
  ·rw [Nat.add_zero] at hd;rw [hd] at h;cases h
  ·exact h
 | φ :: r,s,h,j+1,hne,hd => by
  have:=stableButX_get (L:=r) (s:=s+1) h.2 j (by omega) (by rw [show s+1+j=s+(j+1) by omega];exact hd)
  simpa using this
theorem allStableX_get {ops:Array Oper} {L:List (Value→World→Prop)} {xw:Nat} {X:World→World→Prop}:∀ {Ws:List (Nat × (Nat→Prop))},AllStableX ops L xw X Ws→∀ p ∈ Ws,StableButX ops p.1 p.2 (fun w w' => p.1=xw→X w w') 0 L
 | [],_,_,hp => by cases hp
 | q :: r,h,p,hp => by
  cases hp with
  | head => exact h.1
  | tail _ hp => exact allStableX_get h.2 p hp
def KeyOps (P:Program) (ops:Array Oper) (Q:Exit→Act→World→Prop) (L:List (Value→World→Prop)) (Ws:List (Nat × (Nat→Prop))) (xw:Nat) (X:World→World→Prop) (a0:Act) (w0:World):Nat→List Oper→List (List (Tmp × Option Nat))→List (Value→World→Prop)→Prop
 | i,o :: os,pl :: pls,φ :: φs => (∀ a w,Far (footBut Ws ops i) w0 w→PlanFacts L a0 a w pl →
   if Region.wanted o (yielded ops a.tmps)=true then o.wp P a w (fun a' w' => ∃ v,a' = a.put o.dst v∧Far (footOf Ws i) w w' ∧ φ (keyVal o a v) w' ∧ (i=xw→X w w')) Q else φ (keyVal o a undef) w)∧KeyOps P ops Q L Ws xw X a0 w0 (i+1) os pls φs
 | _,[],_,_ => True
 | _,_,_,_ => False
theorem keyOps_get {L:List (Value→World→Prop)} {Ws:List (Nat × (Nat→Prop))} {xw:Nat} {X:World→World→Prop} {a0:Act} {w0:World}:∀ {s:Nat} {os:List Oper} {pls:List (List (Tmp × Option Nat))} {φs:List (Value→World→Prop)},KeyOps P ops Q L Ws xw X a0 w0 s os pls φs →
  ∀ (i:Nat) o pl,os[i]? = some o→pls[i]? = some pl→∀ a w,Far (footBut Ws ops (s+i)) w0 w→PlanFacts L a0 a w pl →
   if Region.wanted o (yielded ops a.tmps)=true then o.wp P a w (fun a' w' => ∃ v,a' = a.put o.dst v∧Far (footOf Ws (s+i)) w w' ∧ φs.getD i (fun _ _ => True) (keyVal o a v) w' ∧ (s+i=xw→X w w')) Q else φs.getD i (fun _ _ => True) (keyVal o a undef) w
 | _,[],_,_,_,i,o,pl,ho,_ => by simp at ho
 | _,o :: os,[],_,h,_,_,_,_,_ => h.elim
 | _,o :: os,pl :: pls,[],h,_,_,_,_,_ => h.elim
 | _,o :: os,pl :: pls,φ :: φs,h,0,o',pl',ho,hp => by
  simp at ho hp;subst ho;subst hp
  exact h.1
 | s,o :: os,pl :: pls,φ :: φs,h,i+1,o',pl',ho,hp => by
  have:=keyOps_get h.2 i o' pl' (by simpa using ho) (by simpa using hp)
  rw [show s+1+i=s+(i+1) by omega] at this
  simpa using this
def KeyWords (f:Nat→Value) (w:World):List Tmp→List (Value→World→Prop)→Prop
 | d :: ds,φ :: φs => φ (f d) w∧KeyWords f w ds φs
 | _,_ => True
def keysOf (ops:Array Oper):List Tmp:=ops.toList.map skey
theorem keyWords_of {f:Nat→Value} {w:World}:∀ {os:List Oper} {L:List (Value→World→Prop)},(∀ i o,os[i]? = some o→L.getD i (fun _ _ => True) (f (skey o)) w)→KeyWords f w (os.map skey) L
 | [],_,_ => by simp [KeyWords]
 | o :: os,[],_ => by simp [KeyWords]
 | o :: os,φ :: φs,h => by
  have ih:=keyWords_of (os:=os) (L:=φs) (fun i o' ho => by have:=h (i+1) o' (by simpa using ho);simpa using this)
  exact ⟨h 0 o rfl,ih⟩
theorem wp_region_key {id:Nat} {a0:Act} {w0:World} (hm:P.follows .mixedOrders=true) (L:List (Value→World→Prop)) (plan:List (List (Tmp × Option Nat))) (Ks:List Tmp) (M:List Bool) (Ws:List (Nat × (Nat→Prop))) (xw:Nat) (X:World→World→Prop) (hXr:∀ w,X w w)
  (hon:onceB Ws=true) (hok:monoOk ops a0.tmps.size=true) (hkey:keyOk ops=true) (hplan:planOf ops=plan) (hD:keysOf ops=Ks) (hM:maskOf ops a0.tmps.size=M) (hst:AllStable L) (hstF:AllStableX ops L xw X Ws) (hop:KeyOps P ops Q L Ws xw X a0 w0 0 ops.toList plan L)
  (hend:∀ f w,Far (fun b => ∃ p ∈ Ws,p.2 b) w0 w→KeyWords f w Ks L→Q .normal { tmps:=(mergeT M a0.tmps.toList 0 f).toArray,defers:=a0.defers } w) :
  (Code.region id ops true).wp P Q a0 w0:=by
 refine wp_region_any hm (mono_key (w0:=w0) (fun i => L.getD i (fun _ _ => True)) (footOf Ws) xw X hXr hok hkey ?_ ?_ ?_ ops.size _ a0 _ ⟨by simp,far_below ((Below.refl _ _).drew),?_,?_,fun _ _ => rfl,rfl,rfl⟩ ?_)
 ·intro i j v w w' hij hd hv hF hX
  by_cases hi:∃ p ∈ Ws,p.1=i
  ·obtain ⟨p,hp,rfl⟩:=hi
   have hs:=stableButX_get (allStableX_get hstF p hp) j (by omega) (by rw [Nat.zero_add];exact hd)
   exact hs v w w' hv (hF.mono (fun b _ h => by
    obtain ⟨q,hq,e,hb⟩:=h
    rw [once_same hon hp hq e.symm];exact hb)) hX
  ·exact allStable_get hst j v w w' hv (hF.below (Nat.le_refl _) (fun k _ h => by
    obtain ⟨q,hq,e,_⟩:=h
    exact hi ⟨q,hq,e⟩))
 ·intro i o ho a w hb hg
  have hlt:i < ops.size:=(Array.getElem?_eq_some_iff.1 ho).1
  have hpl:plan[i]? = some ((o.looksAt ops).map fun t => (t,match wr ops t with
     | some j => if depB ops i j=true then some j else none
     | none => none)):=by
   rw [← hplan]
   unfold planOf
   rw [List.getElem?_map,List.getElem?_range hlt,Option.map_some,ho]
   try rfl
  have:=keyOps_get hop i o _ (by simpa using ho) hpl a w (by
   rw [Nat.zero_add]
   exact hb.mono (fun b _ h => by
    obtain ⟨k,h1,h2,p,hp,rfl,h3⟩:=h
    exact ⟨p,hp,h1,h2,h3⟩)) (planFacts_of rfl (o:=o) _ hg)
  rw [Nat.zero_add] at this
  exact this
 ·intro a w hb hv hr hd hs
  have h:=hend (fun t => a.tmps.getD t undef) w (hb.mono (fun b _ h => by
   obtain ⟨k,p,hp,_,h3⟩:=h
   exact ⟨p,hp,h3⟩)) (by rw [← hD];exact keyWords_of (fun i o ho => hv i o (by simpa using ho)))
  have e:mergeT M a0.tmps.toList 0 (fun t => a.tmps.getD t undef)=a.tmps.toList:=by
   refine mergeT_eq _ _ _ _ _ (by rw [← hM];simp [maskOf]) (by simpa using hs) ?_ ?_
   ·intro j hj _
    simp [Array.getD_eq_getD_getElem?,List.getD_eq_getElem?_getD]
   ·intro j hj hb
    rw [← hM] at hb
    have hj':j < a0.tmps.size:=by rw [← hs];simpa using hj
    have hw:wr ops j=none:=by
     unfold maskOf at hb
     simp [List.getD_eq_getElem?_getD,List.getElem?_map,List.getElem?_range hj'] at hb
     exact hb
    have:=hr j hw
    simpa [Array.getD_eq_getD_getElem?,List.getD_eq_getElem?_getD] using this
  rw [e,← hd] at h
  exact h
 ·intro k hk
  simp [Array.getD_eq_getD_getElem?] at hk
  rcases h:(Array.replicate ops.size false)[k]? with _ | b <;> simp [h] at hk
  subst hk
  have:=Array.getElem?_eq_some_iff.1 h
  obtain ⟨h1,h2⟩:=this
  simp at h2
 ·intro i o ho hk
  exfalso
  simp [Array.getD_eq_getD_getElem?] at hk
  rcases h:(Array.replicate ops.size false)[i]? with _ | b <;> simp [h] at hk
  subst hk
  have:=Array.getElem?_eq_some_iff.1 h
  obtain ⟨h1,h2⟩:=this
  simp at h2
 ·exact Nat.le_trans List.countP_le_length (by simp)
end
end Go.Proofs.YtamafdcnbcoegabGreat
namespace Go.Proofs.YtamafdcnbcoegabGreat
open Go.RowKit
theorem pk_not_cells {w:World} {p e:Nat} {logs:Nat→List ByteArray} {sh:Nat→List (Nat × Value)} {st:Mod.Stv} {c:Sv} (H:PkAt w p e logs sh st c) {q:Nat} {cs:Array Value} {t:TypeId} {fr:Nat × Nat} (hb:w.heap[q]? = some (.cells cs t fr))
  (h1:t ≠ 125) (h2:t ≠ 9) (h3:t ≠ 3) (h4:t ≠ 190) (h5:t ≠ 233) (h6:t ≠ 5) (h7:t ≠ 254) (h8:t ≠ 130):¬ PkU p c q:=by
 rintro (h | (h | h) | h)
 ·exact ks_not_cells H.ks hb h1 h2 h3 h
 ·subst h
  have:=H.stt.blk
  rw [hb] at this
  injection this with this
  injection this with _ this _
  exact h4 this
 ·exact dk_ne H.stt.dk hb (fun e => h5 e.symm) (fun e => h6 e.symm) (fun e => h7 e.symm) h
 ·exact H.rl.ne hb (fun e => h8 e.symm) h
theorem grown_zero (a:Mod.Sk) (s:Nat):(grown a s []).logs=a.logs:=by
 funext t
 show (if t=s then a.logs s ++ [] else a.logs t)=_
 split
 ·rename_i h;subst h;simp
 ·rfl
theorem grown_snoc (a:Mod.Sk) (s:Nat) (out:List ByteArray) (c:ByteArray):(fun j => if j=s then (grown a s out).logs s ++ [c] else (grown a s out).logs j)=(grown a s (out ++ [c])).logs:=by
 funext t
 show (if t=s then (if s=s then a.logs s ++ out else a.logs s) ++ [c] else (if t=s then a.logs s ++ out else a.logs t))=if t=s then a.logs s ++ (out ++ [c]) else a.logs t
 split
 ·simp
 ·rfl
theorem grown_sum (a:Mod.Sk) (s:Nat) (hs:s < 3) (out:List ByteArray):((grown a s out).logs 0).length+((grown a s out).logs 1).length+((grown a s out).logs 2).length=a.count+out.length:=grown_count a s hs out
theorem grown_self (a:Mod.Sk) (s:Nat) (out:List ByteArray):(grown a s out).logs s=a.logs s ++ out:=by
 show (if s=s then _ else _)=_
 rw [if_pos rfl]
def RecKept (w1 w2:World):Prop:=∀ (g:Nat) (x:ByteArray),w1.heap[g]? = some (.cells #[.string x] 224 (0,0))→∃ x':ByteArray,w2.heap[g]? = some (.cells #[.string x'] 224 (0,0))
theorem recKept_refl (w:World):RecKept w w:=fun _ x h => ⟨x,h⟩
theorem recKept_set (w:World) (g:Nat) (b:ByteArray):RecKept w (w.setCell ⟨g,0,none⟩ (.string b)):=by
 intro k x h
 by_cases e:k=g
 ·subst e
  have:=blk_set (j:=0) (v:=.string b) h
  exact ⟨b,by simpa using this⟩
 ·exact ⟨x,(far_set w g 0 (.string b)).blk h e⟩
def sliceLen:Option Value→Nat
 | some (.slice _ n _) => n
 | _ => 0
end Go.Proofs.YtamafdcnbcoegabGreat
namespace Go.Proofs.YtamafdcnbcoegabGreat
open Go.RowKit
theorem onSh_ix {a:Mod.Sk} {sh:Nat→List (Nat × Value)} (O:OnSh a.held sh) (A:∀ s,s < 3→AreS (sh s)) {s:Nat} (hs:s < 3) (q:Nat):(look (sh s) (q:Int)).isSome=(a.ix s q).isSome:=by
 cases h:a.ix s q with
 | none =>
  rcases areS_look (A s hs) (q:Int) with ⟨b,hl⟩ | hl
  ·exact absurd ((O s hs q b).1 hl) (ix_none h b)
  ·rw [hl];rfl
 | some i =>
  rw [(O s hs q _).2 (ix_some h)]
  rfl
theorem ack_same {a:Mod.Sk} {sh:Nat→List (Nat × Value)} (O:OnSh a.held sh) (A:∀ s,s < 3→AreS (sh s)) {s:Nat} (hs:s < 3) (up:Nat):∀ j,ackTo (sh s) up j=ackBits a s up j
 | 0 => rfl
 | j+1 => by rw [ackTo,ackBits,ack_same O A hs up j,onSh_ix O A hs]
theorem ack_body_same {a:Mod.Sk} {sh:Nat→List (Nat × Value)} (O:OnSh a.held sh) (A:∀ s,s < 3→AreS (sh s)) {s:Nat} (hs:s < 3) (up:Nat):(⟨#[UInt8.ofNat (ackTo (sh s) up 3)]⟩:ByteArray)=ackBody a s up:=by
 rw [ack_same O A hs up 3]
 rfl
theorem commitFrom_end {a:Mod.Sk} {st q n:Nat}:∀ (f:Nat) (out:List ByteArray),120 ≤ n+out.length+f→¬ (n+(a.commitFrom st q n f out).length < 120) ∨ a.ix st (q+(a.commitFrom st q n f out).length)=none
 | 0,out,h => .inl (by show ¬ (n+out.length < 120);omega)
 | f+1,out,h => by
  by_cases hr:n+out.length < 120
  ·cases hi:a.ix st (q+out.length) with
   | none => rw [Mod.Sk.commitFrom_none hr hi];exact .inr hi
   | some i =>
    rw [Mod.Sk.commitFrom_some hr hi]
    exact commitFrom_end f _ (by simp;omega)
  ·rw [Mod.Sk.commitFrom_stop hr];exact .inl hr
theorem skMore_hold {a:Mod.Sk} (M:SkMore a) (s q:Nat) (b:ByteArray) (hb:b.size ≤ 20):SkMore (holdIt a s q b):=by
 unfold holdIt
 split
 ·rename_i h
  obtain ⟨h1,h2,h3⟩:=h
  refine ⟨fun x hx => ?_,fun hr t ht c hc => ?_⟩
  ·simp only [List.mem_append,List.mem_singleton] at hx
   rcases hx with hx | rfl
   ·exact M.bod x hx
   ·exact hb
  ·simp only [List.mem_append,List.mem_singleton] at hc
   rcases hc with hc | hc
   ·exact M.nxt hr t ht c hc
   ·injection hc with e1 e2
    injection e2 with e2 e3
    subst e1
    omega
 ·exact M
theorem skMore_take {a:Mod.Sk} (M:SkMore a) (s:Nat) (b:ByteArray) (hs:s < 3) (hroom:a.count < 120):SkMore (takeIt a s (a.commitFrom s ((a.logs s).length+1) a.count 120 [b])):=by
 have hend:=commitFrom_end (a:=a) (st:=s) (q:=(a.logs s).length+1) (n:=a.count) 120 [b] (by omega)
 obtain ⟨got,hg⟩:∃ got,got=a.commitFrom s ((a.logs s).length+1) a.count 120 [b]:=⟨_,rfl⟩
 rw [← hg] at hend ⊢
 have hcount:(takeIt a s got).count=a.count+got.length:=grown_count a s hs got
 refine ⟨fun x hx => M.bod x (List.mem_filter.1 (show x ∈ a.held.filter _ from hx)).1,fun hr t ht c hc => ?_⟩
 rw [hcount] at hr
 have hc':(t,((takeIt a s got).logs t).length+1,c) ∈ a.held:=(List.mem_filter.1 (show _ ∈ a.held.filter _ from hc)).1
 by_cases e:t=s
 ·subst e
  rw [takeIt_logs,List.length_append] at hc'
  rcases hend with h | h
  ·exact h hr
  ·rw [show (a.logs t).length+1+got.length=(a.logs t).length+got.length+1 by omega] at h
   exact ix_none h c hc'
 ·have hl:(takeIt a s got).logs t=a.logs t:=by
   show (if t=s then _ else a.logs t)=_
   rw [if_neg e]
  rw [hl] at hc'
  exact M.nxt hroom t ht c hc'
theorem skMore_hello {a:Mod.Sk} (M:SkMore a) (e:Nat):SkMore (helloIt a e):=by
 unfold helloIt helloHeld
 split
 ·exact ⟨fun x hx => by simp at hx,fun _ t _ c hc => by simp at hc⟩
 ·exact ⟨M.bod,M.nxt⟩
theorem commits_some {a:Mod.Sk} {s:Nat} {b:ByteArray} (hroom:a.count < 120):a.commits 3 a.epoch s ((a.logs s).length+1:Nat) b=a.commitFrom s ((a.logs s).length+1) a.count 120 [b]:=by
 unfold Mod.Sk.commits
 rw [if_neg (by simp),if_neg (by omega)]
 simp
theorem commits_other {a:Mod.Sk} {s q:Nat} {b:ByteArray} (h:¬ (q=(a.logs s).length+1∧a.count < 120)):a.commits 3 a.epoch s q b = []:=by
 unfold Mod.Sk.commits
 by_cases h1:q=(a.logs s).length+1
 ·rw [if_neg (by simp [h1]),if_pos (by omega)]
 ·rw [if_pos (by right;right;simp;omega)]
theorem skAfter_take {a:Mod.Sk} {s:Nat} {b:ByteArray} (hroom:a.count < 120):skAfter a 3 a.epoch s ((a.logs s).length+1) b=takeIt a s (a.commitFrom s ((a.logs s).length+1) a.count 120 [b]):=by
 unfold skAfter
 rw [commits_some hroom,if_neg (commitFrom_ne (by simp))]
theorem skAfter_hold {a:Mod.Sk} {s q:Nat} {b:ByteArray} (h:¬ (q=(a.logs s).length+1∧a.count < 120)):skAfter a 3 a.epoch s q b=holdIt a s q b:=by
 unfold skAfter
 rw [commits_other h,if_pos rfl]
theorem skMore_after {a:Mod.Sk} (M:SkMore a) (s q:Nat) (b:ByteArray) (hs:s < 3) (hb:b.size ≤ 20):SkMore (skAfter a 3 a.epoch s q b):=by
 by_cases h:q=(a.logs s).length+1∧a.count < 120
 ·obtain ⟨rfl,hr⟩:=h
  rw [skAfter_take hr]
  exact skMore_take M s b hs hr
 ·rw [skAfter_hold h]
  exact skMore_hold M s q b hb
theorem onSh_hold {a:Mod.Sk} {sh:Nat→List (Nat × Value)} (O:OnSh a.held sh) (s q:Nat) (b:ByteArray) (hs:s < 3) (hq:a.ix s q=none):OnSh (a.held ++ [(s,q,b)]) (fun t => if t=s then putL (sh s) q (recS b) else sh t):=by
 intro t ht n c
 show look (if t=s then _ else sh t) _=_ ↔ _
 rw [List.mem_append,List.mem_singleton]
 by_cases e:t=s
 ·subst e
  rw [if_pos rfl,look_putL]
  unfold putF
  by_cases h1:(n:Int)=(q:Int)
  ·have h1':n=q:=by omega
   subst h1'
   rw [if_pos rfl]
   constructor
   ·intro h
    injection h with h
    unfold recS at h
    injection h with h
    have:c=b:=by
     have:=congrArg Array.toList h
     simp at this
     exact this.symm
    subst this
    exact .inr rfl
   ·rintro (h | h)
    ·exact absurd h (ix_none hq c)
    ·injection h with _ h
     injection h with _ h
     rw [h]
  ·rw [if_neg h1,O t ht n c]
   constructor
   ·exact .inl
   ·rintro (h | h)
    ·exact h
    ·injection h with _ h
     injection h with h _
     omega
 ·rw [if_neg e,O t ht n c]
  constructor
  ·exact .inl
  ·rintro (h | h)
   ·exact h
   ·injection h with h _
    exact absurd h e
theorem onSh_nil:OnSh [] (fun _ => []):=by
 intro t _ n c
 simp [look]
structure BoxAt (w:World) (cs:Array Value) (x:World):Prop where
 box:x.heap[w.heap.size]? = some (.cells cs 63 (0,0))
 bel:Below w.heap.size w x
theorem boxAt_new (w:World) (cs:Array Value):BoxAt w cs (w.alloc (.cells cs 63)):=⟨heap_alloc_new _ _,(Below.refl _ _).alloc (Nat.le_refl _) _⟩
theorem BoxAt.lt {w x:World} {cs:Array Value} (h:BoxAt w cs x):w.heap.size < x.heap.size:=lt_of_block h.box
theorem BoxAt.below {w x y:World} {cs:Array Value} (h:BoxAt w cs x) (hb:Below x.heap.size x y):BoxAt w cs y :=
 ⟨(hb.block _ h.lt).trans h.box,h.bel.trans (hb.mono h.bel.size)⟩
theorem BoxAt.drewN {w x:World} {cs:Array Value} (h:BoxAt w cs x) (n:Nat):BoxAt w cs (x.drewN n):=h.below (below_drewN (Below.refl _ _) n)
theorem onSh_small {a:Mod.Sk} {sh:Nat→List (Nat × Value)} (G:SkGood a) (O:OnSh a.held sh) (A:∀ s,s < 3→AreS (sh s)) {s:Nat} (hs:s < 3) (hsort:((sh s).map (·.1)).Pairwise (· < ·)):(sh s).length < 1000:=by
 have hin:∀ n ∈ (sh s).map (·.1),(a.logs s).length+1 ≤ n∧n ≤ (a.logs s).length+4:=by
  intro n hn
  have hc:(look (sh s) (n:Int)).isSome=true:=by rw [look_isSome];simpa using hn
  rcases areS_look (A s hs) (n:Int) with ⟨b,hl⟩ | hl
  ·have hm:=(O s hs n b).1 hl
   exact (G.held _ hm).2
  ·rw [hl] at hc;cases hc
 have h1:(((sh s).map (·.1)).map fun n => n - (a.logs s).length - 1).Nodup:=by
  rw [List.Nodup,List.pairwise_map]
  refine hsort.imp_of_mem (fun {x y} hx hy hlt e => ?_)
  have gx:=hin x hx
  have gy:=hin y hy
  omega
 have h2:=nodup_lt 4 _ h1 (fun n hn => by
  obtain ⟨m,hm,rfl⟩:=List.mem_map.1 hn
  have:=hin m hm
  omega)
 simp at h2
 omega
end Go.Proofs.YtamafdcnbcoegabGreat
namespace Go.Proofs.YtamafdcnbcoegabGreat
open Go.RowKit
end Go.Proofs.YtamafdcnbcoegabGreat
namespace Go.Proofs.YtamafdcnbcoegabGreat
open Go.RowKit
theorem numbersOf_any (e:Nat) (w:World):Calls Tryz.prog 85 #[.int .i64 e] w fun r w' => r = .returned (.agg #[.int .i64 e,.int .i64 0,.int .i64 0])∧Below w.heap.size w w':=by
 go_enter Tryz.func85,Tryz.ntmps85
 go_wp2
 refine bodyPost_ret (v:=.agg #[.int .i64 e,.int .i64 0,.int .i64 0]) (by simp [results,Tryz.results85,go_sem]) rfl ⟨rfl,?_⟩
 exact (Below.refl _ _).alloc (Nat.le_refl _) _
set_option maxHeartbeats 1000000 in
theorem resetOf_any (e:Nat) (w:World):Calls Tryz.prog 131 #[.int .i64 e] w fun r w' => r = .returned (.agg #[.int .i64 5,.int .i64 e,.int .i64 0,.int .i64 0,.string ⟨#[]⟩])∧Below w.heap.size w w':=by
 go_enter Tryz.func131,Tryz.ntmps131
 go_wp2
 refine bodyPost_ret (v:=.agg #[.int .i64 5,.int .i64 e,.int .i64 0,.int .i64 0,.string ⟨#[]⟩]) (by simp [results,Tryz.results131,go_sem]) rfl ⟨rfl,?_⟩
 first | exact (Below.refl _ _).alloc (Nat.le_refl _) _ | exact below_five ((Below.refl _ _).alloc (Nat.le_refl _) _) _ _ _ _ _
end Go.Proofs.YtamafdcnbcoegabGreat
namespace Go.Proofs.YtamafdcnbcoegabGreat
open Go.RowKit
theorem pkStep_ep {w:World} {p e:Nat} {logs:Nat→List ByteArray} {sh:Nat→List (Nat × Value)} {st:Mod.Stv} {c:Sv} (H:PkAt w p e logs sh st c) (e2:Nat) (he:e2 ≤ 2147483647) :
  PkStep w (w.setCell ⟨p,1,none⟩ (.int .i64 e2)) p e2 logs sh st c:=by
 have hpl:∀ j,j < 3→(c.lv j).ownBlock ≠ some p:=fun j hj => (H.ks.lgs j hj).ne H.ks.blk (by decide)
 have hps:∀ j,j < 3→¬ ShU (c.nv j) (c.mv j) p:=fun j hj => (H.ks.shs j hj).ne H.ks.blk (by decide)
 have hs:=far_set w p 1 (.int .i64 e2)
 have hget:∀ j,j ≠ 1→(c.arr.setIfInBounds 1 (.int .i64 e2))[j]? = c.arr[j]?:=fun j hj => Array.getElem?_setIfInBounds_ne (fun e => hj e.symm)
 have h1:1 < c.arr.size:=by rw [H.ks.sz];omega
 refine ⟨{ c with arr:=c.arr.setIfInBounds 1 (.int .i64 e2) },⟨⟨blk_set H.ks.blk,by simpa using H.ks.sz,?_,?_,?_,?_,?_,?_,?_,?_,H.ks.are,H.ks.apl,H.ks.aps,H.ks.cnt,he⟩,H.stt.far hs (fun k hk h => H.sep k (.inl h) hk),H.rl.far hs (fun g hg h => (H.sepr g hg).1 (.inl h)),H.len⟩,hs.mono (fun k _ h => .inl (.inl h)),fun k hk => .inl hk,rfl,rfl⟩
 ·rw [hget _ (by omega)];exact H.ks.a0
 ·simp [h1]
 ·intro j hj;rw [hget _ (by omega)];exact H.ks.al j hj
 ·intro j hj;rw [hget _ (by omega)];exact H.ks.an j hj
 ·intro j hj;rw [hget _ (by omega)];exact H.ks.am j hj
 ·rw [hget _ (by omega)];exact H.ks.ar
 ·intro j hj;exact (H.ks.lgs j hj).far hs (fun g hg h => hpl j hj (by rw [hg,h]))
 ·intro j hj;exact (H.ks.shs j hj).far hs (fun k hk h => hps j hj (by rw [← h];exact hk))
theorem helloIt_same (a:Mod.Sk):helloIt a a.epoch=a:=by
 unfold helloIt helloHeld
 rw [if_neg (by omega)]
theorem onSh_cleared {sh:Nat→List (Nat × Value)}:OnSh [] (fun t => if t < 3 then [] else sh t):=by
 intro t ht n c
 show look (if t < 3 then [] else sh t) _=_ ↔ _
 rw [if_pos ht]
 simp [look]
end Go.Proofs.YtamafdcnbcoegabGreat
namespace Go.Proofs.YtamafdcnbcoegabGreat
open Go.RowKit
theorem size_frame:(Tryz.prog.info? 63).map (·.size)=some 5:=by kernel_rfl
def zFr:Array Value:=#[.int .i64 0,.int .i64 0,.int .i64 0,.int .i64 0,.string ⟨#[]⟩]
structure RsAt (w:World) (cs rs:Array Value) (x:World):Prop where
 box:x.heap[w.heap.size]? = some (.cells cs 63 (0,0))
 res:x.heap[w.heap.size+1]? = some (.cells rs 63 (0,0))
 bel:Below w.heap.size w x
theorem rsAt_new (w:World) (cs rs:Array Value):RsAt w cs rs ((w.alloc (.cells cs 63)).alloc (.cells rs 63)) :=
 ⟨(alloc2 _ _ _).1,(alloc2 _ _ _).2.1,(alloc2 _ _ _).2.2⟩
theorem RsAt.lt {w x:World} {cs rs:Array Value} (h:RsAt w cs rs x):w.heap.size+1 < x.heap.size:=lt_of_block h.res
theorem RsAt.below {w x y:World} {cs rs:Array Value} (h:RsAt w cs rs x) (hb:Below x.heap.size x y):RsAt w cs rs y :=
 ⟨(hb.block _ (by have:=h.lt;omega)).trans h.box,(hb.block _ h.lt).trans h.res,h.bel.trans (hb.mono h.bel.size)⟩
theorem RsAt.drewN {w x:World} {cs rs:Array Value} (h:RsAt w cs rs x) (n:Nat):RsAt w cs rs (x.drewN n):=h.below (below_drewN (Below.refl _ _) n)
set_option maxRecDepth 100000 in
set_option maxHeartbeats 4000000 in
theorem answerData_other {w:World} {p:Nat} {a:Mod.Sk} {sh:Nat→List (Nat × Value)} {st:Mod.Stv} {c:Sv} (H:PkAt w p a.epoch a.logs sh st c) (e:Nat) (s q:Int) (b:ByteArray) (hne:e ≠ a.epoch) :
  Calls Tryz.prog 88 #[ptrTo p,.agg #[.int .i64 3,.int .i64 e,.int .i64 s,.int .i64 q,.string b]] w fun r z =>
   r = .returned (.tuple #[.agg #[.int .i64 5,.int .i64 (max e a.epoch:Nat),.int .i64 0,.int .i64 0,.string ⟨#[]⟩],.int .i64 0])∧Below w.heap.size w z:=by
 have c1:w.cell? ⟨p,1,none⟩=some (.int .i64 a.epoch):=by rw [blk_cell H.ks.blk,H.ks.a1]
 have hpl:=lt_of_block H.ks.blk
 obtain ⟨ep,hep⟩:∃ ep,ep=a.epoch:=⟨_,rfl⟩
 rw [← hep] at c1 hne ⊢
 have hneb:((e:Int) != (ep:Int))=true:=by simp;omega
 obtain ⟨m,hm⟩:∃ m,m=max e ep:=⟨_,rfl⟩
 have hmI:max (e:Int) (ep:Int)=(m:Int):=by omega
 rw [← hm]
 have hR:=fun y => hide (resetOf_any m y)
 have DD:=hide (rsAt_new w #[.int .i64 3,.int .i64 e,.int .i64 s,.int .i64 q,.string b] zFr)
 clear H hep hm
 unfold ptrTo
 go_enter Tryz.func88,Tryz.ntmps88
 go_upto_region 1 with fail
 refine wp_world (RsAt w #[.int .i64 3,.int .i64 e,.int .i64 s,.int .i64 q,.string b] zFr) (unhide DD) ?_
 clear DD
 intro x X
 have y1:=blk_cell (i:=1) X.box
 simp at y1
 have z1:=(X.bel.cell (p:=⟨p,1,none⟩) hpl).trans c1
 have HX:=hide X
 clear X
 go_quiet (fail)
 go_upto_region 2 with fail
 refine wp_world (RsAt w #[.int .i64 3,.int .i64 e,.int .i64 s,.int .i64 q,.string b] zFr) ((unhide HX).drewN _) ?_
 clear HX y1 z1
 intro x2 X
 have HX:=hide X
 have hgx:=X.lt
 clear X
 refine wp_region_foot (by kernel_rfl)
  [fun v _ => v = .pointer (some ⟨w.heap.size,1,none⟩),fun v _ => v = .int .i64 e,fun v _ => v = .pointer (some ⟨p,0,none⟩),fun v _ => v = .pointer (some ⟨p,0,none⟩),fun v _ => v = .pointer (some ⟨p,1,none⟩),fun v _ => v = .int .i64 ep,fun v _ => v = .int .i64 m,
   fun v _ => v = .agg #[.int .i64 5,.int .i64 m,.int .i64 0,.int .i64 0,.string ⟨#[]⟩],fun _ z => z.heap[w.heap.size+1]? = some (.cells #[.int .i64 5,.int .i64 m,.int .i64 0,.int .i64 0,.string ⟨#[]⟩] 63 (0,0)),fun v _ => v = .int .i64 0]
  [[(3,none)],[(15,some 0)],[(0,none)],[(17,some 2)],[(18,some 3)],[(19,some 4)],[(16,some 1),(20,some 5)],[(21,some 6)],[(4,none),(22,some 7)],[]] [some 15,some 16,some 17,some 18,some 19,some 20,some 21,some 22,none,some 5] [false,false,false,false,false,true,false,false,false,false,false,false,false,false,false,true,true,true,true,true,true,true,true,false,false,false,false,false,false,false,false,false,false,false,false,false,false,false,false,false,false,false,false,false,false,false,false,false,false,false,false,false]
  [(8,fun k => k=w.heap.size+1)]
  (by kernel_rfl) (by kernel_rfl) (by kernel_rfl) (by kernel_rfl) (by kernel_rfl) ?_ ?_ ?_ ?_
 ·repeat' (first | exact stable_eq _ | exact stable_blk _ _ | exact trivial | apply And.intro)
 ·repeat' (first | exact trivial | exact .inl rfl | exact .inr (.inr (stableF_eq _ _)) | apply And.intro)
 ·refine ⟨?_,?_,?_,?_,?_,?_,?_,?_,?_,?_,trivial⟩
  all_goals
   intro a' z hb hf
   have zb:=hb.blk (unhide HX).box (footBut_no (by intro q hq;simp at hq;subst hq;intro (h:w.heap.size=w.heap.size+1);omega))
   have y1:z.cell? ⟨w.heap.size,1,none⟩=some (.int .i64 e):=blk_cell (i:=1) zb
   have z1:z.cell? ⟨p,1,none⟩=some (.int .i64 ep):=by
    have hr:=hb.rest p (by omega) (footBut_no (by intro q hq;simp at hq;subst hq;intro (h:p=w.heap.size+1);omega))
    have:=((unhide HX).bel.cell (p:=⟨p,1,none⟩) hpl).trans c1
    unfold World.cell? at this ⊢
    simp only at this ⊢
    rw [hr]
    exact this
   clear zb
   simp only [PlanFacts,List.getD_cons_zero,List.getD_cons_succ,Array.getD_eq_getD_getElem?] at hf
   try simp at hf
  iterate 7
   ·clear hb
    go_simp
    exact ⟨_,rfl,Far.refl _ _,rfl⟩
  ·clear hb
   go_simp
   refine (unhide (hR z)).mono ?_
   rintro r z2 ⟨rfl,hb2⟩
   exact ⟨_,rfl,far_below hb2,rfl⟩
  ·have q0:=hb.blk (unhide HX).res (by
    rintro ⟨q,hq,g1,g2,g3⟩
    simp at hq
    subst hq
    exact g1 rfl)
   clear hb
   rw [if_pos (by rfl)]
   refine wp_store_row 63 (.tmp 4) (.tmp 22) rfl (w.heap.size+1) #[.int .i64 5,.int .i64 m,.int .i64 0,.int .i64 0,.string ⟨#[]⟩] (by simp [Act.eval,hf]) (by simp [Act.eval,hf]) 63 _ q0 (by rw [size_frame];rfl) rfl (by rw [Array.all_eq_true_iff_forall_mem];intro u hu;simp at hu;rcases hu with rfl | rfl | rfl | rfl <;> rfl) ?_
   exact ⟨_,rfl,footOf_of (.head _) (far_setRow _ _ _),setRow_heap _ _ _ _ _ _ q0⟩
  ·clear hb
   go_simp
   exact ⟨_,rfl,Far.refl _ _,rfl⟩
 ·intro f z hF hwd
  have h8:=hwd.2.2.2.2.2.2.2.2.1
  have h9:=hwd.2.2.2.2.2.2.2.2.2.1
  have q0:z.cell? ⟨w.heap.size+1,0,none⟩=some (.int .i64 5):=blk_cell (i:=0) h8
  have q1:z.cell? ⟨w.heap.size+1,1,none⟩=some (.int .i64 m):=blk_cell (i:=1) h8
  have q2:z.cell? ⟨w.heap.size+1,2,none⟩=some (.int .i64 0):=blk_cell (i:=2) h8
  have q3:z.cell? ⟨w.heap.size+1,3,none⟩=some (.int .i64 0):=blk_cell (i:=3) h8
  have q4:z.cell? ⟨w.heap.size+1,4,none⟩=some (.string ⟨#[]⟩):=blk_cell (i:=4) h8
  have hbz:Below w.heap.size w z:=(unhide HX).bel.trans (hF.below (B:=w.heap.size) (by omega) (fun k hk h => by
   obtain ⟨q,hq,h⟩:=h
   simp at hq
   subst hq
   have h:k=w.heap.size+1:=h
   omega))
  have HBZ:=hide hbz
  clear hwd hF h8 hbz
  simp only [mergeT,h9]
  generalize f 15=x15
  generalize f 16=x16
  generalize f 17=x17
  generalize f 18=x18
  generalize f 19=x19
  generalize f 20=x20
  generalize f 21=x21
  generalize f 22=x22
  go_simp
  go_wp2
  exact bodyPost_ret (v:=.tuple #[.agg #[.int .i64 5,.int .i64 m,.int .i64 0,.int .i64 0,.string ⟨#[]⟩],.int .i64 0]) (by simp [results,Tryz.results88,go_sem,q0,q1,q2,q3,q4]) rfl ⟨rfl,unhide HBZ⟩
end Go.Proofs.YtamafdcnbcoegabGreat
namespace Go.Proofs.YtamafdcnbcoegabGreat
open Go.RowKit
theorem wel_bytes (a b c:Int):(⟨(Wire.le4 a ++ Wire.le4 b ++ Wire.le4 c).toArray⟩:ByteArray)=le4S a ++ le4S b ++ le4S c:=by
 rw [← wel_data]
set_option maxRecDepth 100000 in
set_option maxHeartbeats 4000000 in
theorem answerHello_old {w:World} {p:Nat} {a:Mod.Sk} {sh:Nat→List (Nat × Value)} {st:Mod.Stv} {c:Sv} (H:PkAt w p a.epoch a.logs sh st c) (e:Nat) (s q:Int) (b:ByteArray) (hlt:e < a.epoch) :
  Calls Tryz.prog 87 #[ptrTo p,.agg #[.int .i64 1,.int .i64 e,.int .i64 s,.int .i64 q,.string b]] w fun r z =>
   r = .returned (.tuple #[.agg #[.int .i64 5,.int .i64 a.epoch,.int .i64 0,.int .i64 0,.string ⟨#[]⟩],.int .i64 0])∧Below w.heap.size w z:=by
 have c1:w.cell? ⟨p,1,none⟩=some (.int .i64 a.epoch):=by rw [blk_cell H.ks.blk,H.ks.a1]
 have hpl:=lt_of_block H.ks.blk
 obtain ⟨ep,hep⟩:∃ ep,ep=a.epoch:=⟨_,rfl⟩
 rw [← hep] at c1 hlt ⊢
 have hltI:(e:Int) < (ep:Int):=by omega
 have hR:=fun y => hide (resetOf_any ep y)
 have DD:=hide (rsAt_new w #[.int .i64 1,.int .i64 e,.int .i64 s,.int .i64 q,.string b] zFr)
 clear H hep hlt
 unfold ptrTo
 go_enter Tryz.func87,Tryz.ntmps87
 go_upto_region 1 with fail
 refine wp_world (RsAt w #[.int .i64 1,.int .i64 e,.int .i64 s,.int .i64 q,.string b] zFr) (unhide DD) ?_
 clear DD
 intro x X
 have y1:=blk_cell (i:=1) X.box
 simp at y1
 have z1:=(X.bel.cell (p:=⟨p,1,none⟩) hpl).trans c1
 have HX:=hide X
 clear X
 go_quiet (fail)
 go_upto_region 2 with fail
 refine wp_world (RsAt w #[.int .i64 1,.int .i64 e,.int .i64 s,.int .i64 q,.string b] zFr) ((unhide HX).drewN _) ?_
 clear HX y1 z1
 intro x2 X
 have z1:=(X.bel.cell (p:=⟨p,1,none⟩) hpl).trans c1
 have HX:=hide X
 have hpx:p < x2.heap.size:=Nat.lt_of_lt_of_le hpl X.bel.size
 clear X
 go_wp2_with (go_at_call 131;refine (unhide (hR _)).mono ?_;rintro r y ⟨rfl,hb⟩;have X:=(unhide HX).below hb;have q0:=blk_cell (i:=0) X.res;have q1:=blk_cell (i:=1) X.res;have q2:=blk_cell (i:=2) X.res;have q3:=blk_cell (i:=3) X.res;have q4:=blk_cell (i:=4) X.res;have f0:=blk_free (i:=0) X.res;have f1:=blk_free (i:=1) X.res;have f2:=blk_free (i:=2) X.res;have f3:=blk_free (i:=3) X.res;have f4:=blk_free (i:=4) X.res;simp [zFr] at q0 q1 q2 q3 q4;have HXX:=hide X;clear X hb)
 refine bodyPost_ret (v:=.tuple #[.agg #[.int .i64 5,.int .i64 ep,.int .i64 0,.int .i64 0,.string ⟨#[]⟩],.int .i64 0]) (by simp [results,Tryz.results87,go_sem, *]) rfl ⟨rfl,?_⟩
 have hb:=(unhide HXX).bel
 refine ((((hb.setCell (p:=⟨w.heap.size+1,0,none⟩) (by simp) _).setCell (p:=⟨w.heap.size+1,1,none⟩) (by simp) _).setCell (p:=⟨w.heap.size+1,2,none⟩) (by simp) _).setCell (p:=⟨w.heap.size+1,3,none⟩) (by simp) _).setCell (p:=⟨w.heap.size+1,4,none⟩) (by simp) _
end Go.Proofs.YtamafdcnbcoegabGreat
namespace Go.Proofs.YtamafdcnbcoegabGreat
open Go.RowKit
theorem framesOut_one {B g:Nat} {z:World} {v:Value} {l:List UInt8} (hv:Owns B z v l) (hB:B ≤ g) (hg:z.heap[g]? = some (.cells #[v] 48 (0,0))):FramesOut B z (.slice (some ⟨g,0,none⟩) 1 1) [v] [⟨l.toArray⟩] (fun _ => False):=by
 refine ⟨rfl,⟨by simp,.inr ⟨g,1,_,rfl,hB,hg,by simp,by unfold maxLen;omega,by simp,by simp⟩⟩,?_,?_,fun _ _ h => h⟩
 ·intro j u hj
  cases j with
  | zero => simp at hj;subst hj;exact hv
  | succ j => simp at hj
 ·intro i j u u' hi hj hne
  cases i with
  | zero =>
   cases j with
   | zero => exact absurd rfl hne
   | succ j => simp at hj
  | succ i => simp at hi
theorem framesOut_none (B:Nat) (z:World):FramesOut B z (.slice none 0 0) [] [] (fun _ => False) :=
 ⟨rfl,World.ownsRow_nil _ _ _ _,fun j v hj => by simp at hj,fun i j u v hi => by simp at hi,fun _ _ h => h⟩
end Go.Proofs.YtamafdcnbcoegabGreat
namespace Go.Proofs.YtamafdcnbcoegabGreat
open Go.RowKit
theorem fence_proper (n:Nat) (hn:n ≤ 2147483647):Wire.proper 5 n 0 0 ⟨#[]⟩=true:=by
 simp [Wire.proper,Wire.isNum,ByteArray.size];omega
theorem reads_parts {l:List UInt8} (hr:Wire.reads l=true):∃ (k:Int) (e s q:Nat) (b:ByteArray),Wire.kindOf l=k∧Wire.epochOf l=e∧Wire.streamOf l=s∧Wire.seqOf l=q∧Wire.bodyOf l=b∧e ≤ 2147483647∧s < 3∧q ≤ 2147483647∧b.size ≤ 20:=by
 have hp:=hr
 unfold Wire.reads at hp
 rw [Bool.and_eq_true] at hp
 obtain ⟨_,h2,h3,h4,h5⟩:=proper_small hp.2
 exact ⟨_,(Wire.epochOf l).toNat,(Wire.streamOf l).toNat,(Wire.seqOf l).toNat,_,rfl,by omega,by omega,by omega,rfl,by omega,by omega,by omega,h5⟩
theorem skSays_yes {a:Mod.Sk} {l:List UInt8} (hr:Wire.reads l=true) {k:Int} {e s q:Nat} {b:ByteArray} (h1:Wire.kindOf l=k) (h2:Wire.epochOf l=e) (h3:Wire.streamOf l=s) (h4:Wire.seqOf l=q) (h5:Wire.bodyOf l=b) :
  skSays a l=(0,skReply a k e s q b):=by
 unfold skSays
 rw [hr,h1,h2,h3,h4,h5]
 rfl
theorem skSays_no {a:Mod.Sk} {l:List UInt8} (hr:Wire.reads l=false):skSays a l=(1,a,[]):=by
 unfold skSays
 rw [hr]
 rfl
theorem skMore_reply {a:Mod.Sk} (M:SkMore a) (k:Int) (e s q:Nat) (b:ByteArray) (hs:s < 3) (hb:b.size ≤ 20):SkMore (skReply a k e s q b).1:=by
 unfold skReply
 split
 ·split
  ·exact M
  ·exact skMore_hello M _
 ·split
  ·rename_i h3
   subst h3
   split
   ·rename_i he
    rw [he]
    exact skMore_after M s q b hs hb
   ·exact M
  ·exact M
theorem skMore_says {a:Mod.Sk} (M:SkMore a) (l:List UInt8):SkMore (skSays a l).2.1:=by
 cases hr:Wire.reads l
 ·rw [skSays_no hr];exact M
 ·obtain ⟨k,e,s,q,b,h1,h2,h3,h4,h5,g1,g2,g3,g4⟩:=reads_parts hr
  rw [skSays_yes hr h1 h2 h3 h4 h5]
  exact skMore_reply M k e s q b g2 g4
end Go.Proofs.YtamafdcnbcoegabGreat
