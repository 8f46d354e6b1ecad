/-
  Part 15 of a proof: K30, K31, T6, K32, K33, Q6, E4, E5, E6, AN1, L31, L27, L28.
-/
import Derived.Test.YtamafdcnbcoegabGreatAn14
namespace Go.Proofs.YtamafdcnbcoegabGreat
open Go.RowKit
def skWr (a:Mod.Sk) (k e:Int) (s q:Nat) (b:ByteArray):Nat :=
 if k=1 then (if e < a.epoch then 0 else hiW a e.toNat) else if k=3 then (if e=a.epoch then (a.commits 3 a.epoch s q b).length else 0) else 0
def skW (a:Mod.Sk) (l:List UInt8):Nat:=if Wire.reads l=true then skWr a (Wire.kindOf l) (Wire.epochOf l) (Wire.streamOf l).toNat (Wire.seqOf l).toNat (Wire.bodyOf l) else 0
def skBadR (a:Mod.Sk) (k:Int) (s q:Nat) (b:ByteArray) (n:Nat):Nat→List ByteArray:=if k=3 then (grown a s ((a.commits 3 a.epoch s q b).take (n - 1))).logs else a.logs
def skBad (a:Mod.Sk) (l:List UInt8) (n:Nat):Nat→List ByteArray:=skBadR a (Wire.kindOf l) (Wire.streamOf l).toNat (Wire.seqOf l).toNat (Wire.bodyOf l) n
theorem skW_yes {a:Mod.Sk} {l:List UInt8} (hr:Wire.reads l=true) {k:Int} {e s q:Nat} {b:ByteArray} (h1:Wire.kindOf l=k) (h2:Wire.epochOf l=e) (h3:Wire.streamOf l=s) (h4:Wire.seqOf l=q) (h5:Wire.bodyOf l=b) :
  skW a l=skWr a k e s q b∧∀ n,skBad a l n=skBadR a k s q b n:=by
 unfold skW skBad
 rw [hr,h1,h2,h3,h4,h5]
 exact ⟨rfl,fun _ => rfl⟩
theorem skW_no {a:Mod.Sk} {l:List UInt8} (hr:Wire.reads l=false):skW a l=0:=by
 unfold skW
 rw [hr]
 rfl
theorem sinkDeliver_ok {op ct n:Nat} {w:World} {p:Nat} {a:Mod.Sk} {sh:Nat→List (Nat × Value)} {st:Mod.Stv} {c:Sv} (H:PkAt w p a.epoch a.logs sh st c) (hs:Alv op ct n st a.epoch a.logs) (hct:ct+1000 < 18446744073709551616) (G:SkGood a) (M:SkMore a) (O:OnSh a.held sh) (bs:Value) (l:List UInt8) (hat:BytesAt w bs l) (hn:n=0 ∨ skW a l < n) :
  Calls Tryz.prog 44 #[ptrTo p,bs] w fun r z => DlR (fun u x => SkIs2 op (ct+skW a l) (n - skW a l) u x p (skSays a l).2.1 c) w z (skSays a l).1 r (skSays a l).2.2:=by
 cases hr:Wire.reads l
 ·rw [skSays_no hr,skW_no hr]
  refine (sinkDeliver_deaf H hs.dead bs l hat hr).mono ?_
  rintro r z ⟨rfl,hb⟩
  exact ⟨_,[],w,rfl,skIs2_refl H hs O,hb,framesOut_none _ _⟩
 ·obtain ⟨k,e,s,q,b,h1,h2,h3,h4,h5,g1,g2,g3,g4⟩:=reads_parts hr
  rw [skSays_yes hr h1 h2 h3 h4 h5]
  rw [(skW_yes hr h1 h2 h3 h4 h5).1] at hn ⊢
  have hDec:∀ y,Below w.heap.size w y→Calls Tryz.prog 69 #[bs] y fun r z => r = .returned (.tuple #[.agg #[.int .i64 k,.int .i64 e,.int .i64 s,.int .i64 q,.string b],.int .i64 0])∧Below y.heap.size y z:=fun y hy => by
   have:=decode_any bs l y (hat.below hy)
   rw [hr] at this
   simp only [if_true,frVal,h1,h2,h3,h4,h5] at this
   exact this
  have HY:=fun y (hy:Below w.heap.size w y) => H.far (far_below (E:=fun _ => False) hy) (fun _ _ h => h)
  have n0:=H.ks.loglen (i:=0) (by omega)
  have n1:=H.ks.loglen (i:=1) (by omega)
  have n2:=H.ks.loglen (i:=2) (by omega)
  have hep:=H.ks.ep
  have hbeh:∀ {ct' n':Nat} {a2:Mod.Sk} {u v z:World},SkIs2 op ct' n' v z p a2 c→Below u.heap.size u v→SkIs2 op ct' n' u z p a2 c:=fun h hb => SkIs2.behind h hb
  unfold skReply
  unfold skWr at hn ⊢
  by_cases k1:k=1
  ·simp only [if_pos k1] at hn ⊢
   by_cases hlt:(e:Int) < a.epoch
   ·simp only [if_pos hlt] at hn ⊢
    refine sinkDeliverH_R (R:=(fun u x => SkIs2 op (ct+0) (n - 0) u x p a c)) H hs.dead bs (fun h hb => hbeh h hb) k e s q b k1 hDec (fun y hy => ?_)
    subst k1
    refine answerByH_okR (w:=y) (R:=(fun u x => SkIs2 op (ct+0) (n - 0) u x p a c)) (fun h hb => hbeh h hb) 1 1 e s q b 5 a.epoch 0 0 ⟨#[]⟩ (fence_proper _ hep) (fun z hz => ?_)
    have hwz:Below w.heap.size w z:=hy.trans (hz.mono hy.size)
    refine (answerHello_old (HY z hwz) e s q b (by omega)).mono ?_
    rintro r u ⟨rfl,hb⟩
    exact ⟨rfl,(skIs2_refl (HY z hwz) hs O).below hb⟩
   ·simp only [if_neg hlt] at hn ⊢
    have hE:(e:Int).toNat=e:=by omega
    rw [hE] at hn ⊢
    refine sinkDeliverH_R (R:=(fun u x => SkIs2 op (ct+hiW a e) (n - hiW a e) u x p (helloIt a e) c)) H hs.dead bs (fun h hb => hbeh h hb) k e s q b k1 hDec (fun y hy => ?_)
    subst k1
    refine answerByH_okR (w:=y) (R:=(fun u x => SkIs2 op (ct+hiW a e) (n - hiW a e) u x p (helloIt a e) c)) (fun h hb => hbeh h hb) 1 1 e s q b 2 e 0 0 (welB a) (wel_proper g1 n0 n1 n2) (fun z hz => ?_)
    have hwz:Below w.heap.size w z:=hy.trans (hz.mono hy.size)
    exact answerHello_ok (HY z hwz) hs hct O e s q b (by omega) g1 hn
  ·simp only [if_neg k1] at hn ⊢
   by_cases k3:k=3
   ·simp only [if_pos k3] at hn ⊢
    by_cases he:(e:Int)=a.epoch
    ·simp only [if_pos he] at hn ⊢
     have he':e=a.epoch:=by omega
     subst k3
     rw [he] at hDec ⊢
     refine sinkDeliverD_R (R:=(fun u x => SkIs2 op (ct+(a.commits 3 a.epoch s q b).length) (n - (a.commits 3 a.epoch s q b).length) u x p (skAfter a 3 a.epoch s q b) c)) H hs.dead bs (fun h hb => hbeh h hb) 3 a.epoch s q b rfl hDec (fun y hy => ?_)
     have hR:=skGood_reply G 3 a.epoch s q b g2 (by omega)
     refine answerByD_okR (w:=y) (R:=(fun u x => SkIs2 op (ct+(a.commits 3 a.epoch s q b).length) (n - (a.commits 3 a.epoch s q b).length) u x p (skAfter a 3 a.epoch s q b) c)) (fun h hb => hbeh h hb) 3 3 a.epoch s q b 4 a.epoch s _ _ ?_ (fun z hz => ?_)
     ·have hepE:(skAfter a 3 a.epoch s q b).epoch=a.epoch:=by
       unfold skAfter
       split
       ·exact holdIt_epoch _ _ _ _
       ·rfl
      have hG:SkGood (skAfter a 3 a.epoch s q b):=by
       unfold skReply at hR
       rw [if_neg (by omega),if_pos rfl,if_pos rfl] at hR
       exact hR
      have hc:=count_len (a:=skAfter a 3 a.epoch s q b) g2
      have hrm:=hG.room
      have:=ack_proper (a:=skAfter a 3 a.epoch s q b) (s:=s) (up:=((skAfter a 3 a.epoch s q b).logs s).length) hG.ep g2 (by omega)
      rw [hepE] at this
      exact this
     ·have hwz:Below w.heap.size w z:=hy.trans (hz.mono hy.size)
      exact answerData_ok (HY z hwz) hs hct G M O s q g2 g3 b g4 hn
    ·simp only [if_neg he] at hn ⊢
     have hE:max (e:Int).toNat a.epoch=max e a.epoch:=rfl
     rw [hE]
     subst k3
     refine sinkDeliverD_R (R:=(fun u x => SkIs2 op (ct+0) (n - 0) u x p a c)) H hs.dead bs (fun h hb => hbeh h hb) 3 e s q b rfl hDec (fun y hy => ?_)
     refine answerByD_okR (w:=y) (R:=(fun u x => SkIs2 op (ct+0) (n - 0) u x p a c)) (fun h hb => hbeh h hb) 3 3 e s q b 5 (max e a.epoch:Nat) 0 0 ⟨#[]⟩ (fence_proper _ (by omega)) (fun z hz => ?_)
     have hwz:Below w.heap.size w z:=hy.trans (hz.mono hy.size)
     refine (answerData_other (HY z hwz) e s q b (by omega)).mono ?_
     rintro r u ⟨rfl,hb⟩
     exact ⟨rfl,(skIs2_refl (HY z hwz) hs O).below hb⟩
   ·simp only [if_neg k3] at hn ⊢
    exact sinkDeliverN_R (R:=fun u x => SkIs2 op (ct+0) (n - 0) u x p a c) H hs.dead (skIs2_refl H hs O) bs k e s q b k1 k3 hDec
end Go.Proofs.YtamafdcnbcoegabGreat
namespace Go.Proofs.YtamafdcnbcoegabGreat
open Go.RowKit
set_option maxHeartbeats 1000000 in
theorem sinkLog_live {w:World} {p e:Nat} {logs:Nat→List ByteArray} {sh:Nat→List (Nat × Value)} {st:Mod.Stv} {c:Sv} (H:PkAt w p e logs sh st c) (hs:st.dk.dead=false) (i:Int) :
  Calls Tryz.prog 46 #[ptrTo p,.int .i64 i] w fun r w' =>
   ∃ lv,r = .returned lv∧w'.ownsRow w.heap.size 9 1 lv (if 0 ≤ i∧i < 3 then logs i.toNat else []).length (strs (if 0 ≤ i∧i < 3 then logs i.toNat else []))∧Below w.heap.size w w':=by
 have c0:w.cell? ⟨p,0,none⟩=some (ptrTo c.s):=by rw [blk_cell H.ks.blk,H.ks.a0]
 have hID:=storeIsDead_any H.stt
 rw [hs] at hID
 have HID:=hide hID
 by_cases h:0 ≤ i∧i < 3
 ·rw [if_pos h]
  obtain ⟨n,rfl⟩:=Int.eq_ofNat_of_zero_le h.1
  obtain ⟨h0,h3⟩:=h
  have hn3:n < 3:=by omega
  obtain ⟨ad,cap,hlv,clog⟩:=H.ks.logc hn3
  have hrow:=H.ks.lgs n hn3
  rw [hlv] at hrow
  have HCL:=hide (cloneStrs_any hrow (by have:=H.ks.loglen hn3;omega))
  have hst:Wire.isStr (n:Int)=true:=by simp [Wire.isStr];omega
  have hIS:=isStream_any (n:Int) w
  rw [hst] at hIS
  have HIS:=hide hIS
  have hnn:((n:Int)).toNat=n:=by omega
  rw [hnn]
  obtain ⟨m,hm⟩:∃ m,m=(logs n).length:=⟨_,rfl⟩
  obtain ⟨xs,hxs⟩:∃ xs,xs=strs (logs n):=⟨_,rfl⟩
  rw [← hm,← hxs] at HCL ⊢
  rw [← hm] at clog
  clear H hID hrow hlv hIS hst hnn hm hxs
  unfold ptrTo at *
  go_enter Tryz.func46,Tryz.ntmps46
  go_wp2_with (first | (go_at_call 71;refine (unhide HIS).mono ?_;rintro r y ⟨rfl,hyw⟩;obtain rfl:w=y:=hyw.symm) | (go_at_call 66;refine (unhide HID).mono ?_;rintro r y ⟨rfl,hyw⟩;obtain rfl:w=y:=hyw.symm) | (go_at_call 72;refine (unhide HCL).mono ?_;rintro r y ⟨v',rfl,ho,hb⟩;replace ho:=hide ho;replace hb:=hide hb))
  go_ret
  exact ⟨v',rfl,unhide ho,unhide hb⟩
 ·rw [if_neg h]
  have hst:Wire.isStr i=false:=by
   cases hc:Wire.isStr i
   ·rfl
   ·simp [Wire.isStr] at hc;omega
  have hIS:=isStream_any i w
  rw [hst] at hIS
  have HIS:=hide hIS
  clear H hID hIS hst h
  unfold ptrTo at *
  go_enter Tryz.func46,Tryz.ntmps46
  go_wp2_with (go_at_call 71;refine (unhide HIS).mono ?_;rintro r y ⟨rfl,hyw⟩;obtain rfl:w=y:=hyw.symm)
  go_ret
  exact ⟨_,rfl,World.ownsRow_nil _ _ _ _,Below.refl _ _⟩
end Go.Proofs.YtamafdcnbcoegabGreat
namespace Go.Proofs.YtamafdcnbcoegabGreat
open Go.RowKit
def skLogs (a:Mod.Sk) (i:Int):List ByteArray:=if 0 ≤ i∧i < 3 then a.logs i.toNat else []
end Go.Proofs.YtamafdcnbcoegabGreat
namespace Go.Proofs.YtamafdcnbcoegabGreat
open Go.RowKit
def CxAt (op ct n:Nat) (w:World) (v:Nat) (a:Mod.Sk) (U:Nat→Prop):Prop :=
 ∃ p sh st c,w.heap[v]? = some (.cells #[ptrTo p] 79 (0,0))∧PkAt w p a.epoch a.logs sh st c∧Alv op ct n st a.epoch a.logs∧OnSh a.held sh∧SkMore a∧U=fun k => k=v ∨ PkU p c k
section
variable {op ct n:Nat} {w w':World} {v:Nat} {a:Mod.Sk} {U:Nat→Prop} {e:Nat} {lg:Nat→List ByteArray}
theorem cxAt_lt (h:CxAt op ct n w v a U):∀ k,U k→k < w.heap.size:=by
 obtain ⟨p,sh,st,c,hb,H,_,_,_,rfl⟩:=h
 rintro k (rfl | hk)
 ·exact lt_of_block hb
 ·exact H.lt k hk
theorem cxAt_far {E:Nat→Prop} (h:CxAt op ct n w v a U) (hf:Far E w w') (hE:∀ k,U k→¬ E k):CxAt op ct n w' v a U:=by
 obtain ⟨p,sh,st,c,hb,H,h1,h2,h3,rfl⟩:=h
 exact ⟨p,sh,st,c,hf.blk hb (hE v (.inl rfl)),H.far hf (fun k hk => hE k (.inr hk)),h1,h2,h3,rfl⟩
set_option maxHeartbeats 1000000 in
theorem cxDeliver_ok (bs:Value) (l:List UInt8) (h:CxAt op ct n w v a U) (hct:ct+1000 < 18446744073709551616) (G:SkGood a) (hat:BytesAt w bs l) (hn:n=0 ∨ skW a l < n) :
  Calls Tryz.prog 15 #[ptrTo v,bs] w fun r w' =>
   ∃ lv fs U',r = .returned (.tuple #[lv,.int .i64 (skSays a l).1])∧FramesOut w.heap.size w' lv fs (skSays a l).2.2 U' ∧ CxAt op (ct+skW a l) (n - skW a l) w' v (skSays a l).2.1 U' ∧ Far U w w' ∧ ∀ k,U' k→U k ∨ w.heap.size ≤ k:=by
 obtain ⟨p,sh,st,c,hb,H,hs,O,M,rfl⟩:=h
 have c0:w.cell? ⟨v,0,none⟩=some (ptrTo p):=blk_cell (i:=0) hb
 have HD:=hide (sinkDeliver_ok H hs hct G M O bs l hat hn)
 have hM:=skMore_says M l
 obtain ⟨a2,ha2⟩:∃ a2,a2=(skSays a l).2.1:=⟨_,rfl⟩
 obtain ⟨er,her⟩:∃ er,er=(skSays a l).1:=⟨_,rfl⟩
 obtain ⟨Fl,hFl⟩:∃ Fl,Fl=(skSays a l).2.2:=⟨_,rfl⟩
 rw [← ha2,← her,← hFl] at HD ⊢
 rw [← ha2] at hM
 generalize ct+skW a l=ct' at HD ⊢
 generalize n - skW a l=n' at HD ⊢
 have hnv:=cs_not H hb
 have HH:=hide (And.intro hb hM)
 clear H hb hM ha2 her hFl hat hn hs hct
 unfold ptrTo at c0 HD
 show Calls Tryz.prog _ #[.pointer (some ⟨v,0,none⟩),bs] w _
 go_enter Tryz.func15,Tryz.ntmps15
 go_wp2_with (go_at_call 44;refine (unhide HD).mono ?_;rintro r y ⟨lv,fs,x,rfl,k1,k2,k3⟩;replace k1:=hide k1;replace k2:=hide k2;replace k3:=hide k3)
 go_ret2
 obtain ⟨sh2,st2,⟨c2,K,F,N,t1,t2⟩,hs2,O2⟩:=unhide k1
 obtain ⟨hb,hM⟩:=unhide HH
 have hbx:=F.blk hb hnv
 have hB:=unhide k2
 refine ⟨lv,fs,fun k => k=v ∨ PkU p c2 k,rfl,(unhide k3).up F.size ?_,⟨p,sh2,st2,c2,(hB.block _ (lt_of_block hbx)).trans hbx,K.far (far_below (E:=fun _ => False) hB) (fun _ _ h => h),hs2,O2,hM,rfl⟩,?_,?_⟩
 ·rintro k (rfl | hk)
  ·exact lt_of_block hbx
  ·exact K.lt k hk
 ·exact (F.mono (fun k _ h => .inr h)).trans (far_below (E:=fun _ => False) hB) (fun _ _ h => h.elim)
 ·rintro k (rfl | hk)
  ·exact .inl (.inl rfl)
  ·exact (N k hk).imp .inr id
theorem cxEpoch (h:CxAt op ct n w v a U):Calls Tryz.prog 27 #[ptrTo v] w fun r w' => r = .returned (.int .i64 a.epoch)∧w' = w:=by
 obtain ⟨p,sh,st,c,hb,H,hs,O,M,rfl⟩:=h
 have c0:w.cell? ⟨v,0,none⟩=some (ptrTo p):=blk_cell (i:=0) hb
 have HD:=hide (sinkEpoch_any H)
 clear H hb
 unfold ptrTo at *
 go_enter Tryz.func27,Tryz.ntmps27
 go_wp2_with (go_at_call 55;refine (unhide HD).mono ?_;rintro r y ⟨rfl,rfl⟩)
 go_ret
 exact ⟨rfl,rfl⟩
theorem cxLog (i:Int) (h:CxAt op ct n w v a U):Calls Tryz.prog 17 #[ptrTo v,.int .i64 i] w fun r w' =>
   ∃ lv,r = .returned lv∧w'.ownsRow w.heap.size 9 1 lv (skLogs a i).length (strs (skLogs a i))∧Below w.heap.size w w':=by
 obtain ⟨p,sh,st,c,hb,H,hs,O,M,rfl⟩:=h
 have c0:w.cell? ⟨v,0,none⟩=some (ptrTo p):=blk_cell (i:=0) hb
 have HD:=hide (sinkLog_live H hs.dead i)
 unfold skLogs
 obtain ⟨xs,hxs⟩:∃ xs,xs=if 0 ≤ i∧i < 3 then a.logs i.toNat else []:=⟨_,rfl⟩
 rw [← hxs] at HD ⊢
 clear H hb hxs
 unfold ptrTo at *
 go_enter Tryz.func17,Tryz.ntmps17
 go_wp2_with (go_at_call 46;refine (unhide HD).mono ?_;rintro r y ⟨lv,rfl,k1,k2⟩;replace k1:=hide k1;replace k2:=hide k2)
 go_ret
 exact ⟨lv,rfl,unhide k1,unhide k2⟩
theorem cxImg (h:CxAt op ct n w v a U):∃ (L:List UInt8) (c2 hd:Nat),Mod.SkDisk L op c2 hd a.epoch a.logs∧∀ x,Below w.heap.size w x→∀ keep:Int,
  Calls Tryz.prog 28 #[ptrTo v,.int .u64 keep] x fun r y => ∃ v',r = .returned v' ∧ Owns x.heap.size y v' L∧Below x.heap.size x y:=by
 obtain ⟨p,sh,st,c,hb,H,hs,O,M,rfl⟩:=h
 refine ⟨st.dk.bytes,st.count,st.head,by rw [← hs.op];exact hs.dk,fun x hx keep => ?_⟩
 exact csImageOf ((hx.block _ (lt_of_block hb)).trans hb) (H.far (E:=fun _ => False) (far_below hx) (fun _ _ e => e)) keep
end
end Go.Proofs.YtamafdcnbcoegabGreat
namespace Go.Proofs.YtamafdcnbcoegabGreat
open Go.RowKit
theorem alv_opened {L:List UInt8} {h:Mod.Hd} {at':Nat} {rs:List Mod.Rc} {lg:Nat→List ByteArray} (ho:Mod.openSt L=some (h,at',rs)) (hb:h.b=0) (hd:h.d=0) (hl:Mod.skLd rs 0 (fun _ => [])=some lg) (hlen:L.length=7808) :
  Alv (h.o+1) 1 0 (newStv L h at') h.a lg :=
 ⟨rfl,rfl,rfl,Nat.le_refl _,Mod.skDisk_opened (a:={ epoch:=h.a,logs:=lg,held:=[] }) ho hb hd hl hlen⟩
theorem skMore_nil (e:Nat) (lg:Nat→List ByteArray):SkMore { epoch:=e,logs:=lg,held:=[] }:=⟨fun h hh => by simp at hh,fun _ s _ b hb => by simp at hb⟩
set_option maxHeartbeats 1000000 in
theorem cxOpen_of {w:World} (bs:Value) (L:List UInt8) (hat:BytesAt w bs L) (hlen:L.length=7808) {h:Mod.Hd} {at':Nat} {rs:List Mod.Rc} {lg:Nat→List ByteArray} (ho:Mod.openSt L=some (h,at',rs)) (hb0:h.b=0) (hd0:h.d=0) (hl:Mod.skLd rs 0 (fun _ => [])=some lg) :
  Calls Tryz.prog 25 #[bs] w fun r w' =>
   ∃ v U,r = .returned (.tuple #[ptrTo v,.int .i64 0])∧CxAt (h.o+1) 1 0 w' v { epoch:=h.a,logs:=lg,held:=[] } U∧Below w.heap.size w w' ∧ ∀ k,U k→w.heap.size ≤ k:=by
 have HD:Hid (Calls Tryz.prog 53 #[bs] w fun r w' => ∃ p c,r = .returned (.tuple #[ptrTo p,.int .i64 0])∧PkAt w' p h.a lg (fun _ => []) (newStv L h at') c∧Below w.heap.size w w' ∧ ∀ k,PkU p c k→w.heap.size ≤ k):=by
  refine (sinkOpen_some w bs L hat hlen ho).mono ?_
  rintro r y (⟨h1 | h1,_⟩ | ⟨_,_,lg2,p,c,e1,rfl,k1,k2,k3⟩)
  ·exact absurd ⟨hb0,hd0⟩ h1
  ·rw [hl] at h1;cases h1
  ·rw [hl] at e1
   injection e1 with e1
   subst e1
   exact ⟨p,c,rfl,k1,k2,k3⟩
 have HA:=hide (alv_opened ho hb0 hd0 hl hlen)
 clear hat ho hb0 hd0 hl hlen
 generalize newStv L h at' = st at HD HA
 generalize h.o+1=op1 at HA ⊢
 generalize h.a=ep at HD HA ⊢
 unfold ptrTo at *
 go_enter Tryz.func25,Tryz.ntmps25
 go_wp2_with (go_at_call 53;refine (unhide HD).mono ?_;rintro r y ⟨p,c,rfl,K,hb,hU⟩;replace K:=hide K;replace hb:=hide hb;replace hU:=hide hU)
 go_ret2
 have hb:=unhide hb
 refine ⟨y.heap.size,_,rfl,⟨p,_,st,c,heap_alloc_new _ _,(unhide K).far (far_below (E:=fun _ => False) ((Below.refl _ _).alloc (Nat.le_refl _) _)) (fun _ _ h => h),unhide HA,onSh_nil,skMore_nil _ _,rfl⟩,hb.alloc hb.size _,?_⟩
 rintro k (rfl | hk)
 ·exact hb.size
 ·exact (unhide hU) k hk
theorem cxOpen_zero {w:World} (bs:Value) (hat:BytesAt w bs (List.replicate 7808 0)) :
  Calls Tryz.prog 25 #[bs] w fun r w' =>
   ∃ v U,r = .returned (.tuple #[ptrTo v,.int .i64 0])∧CxAt 1 1 0 w' v { epoch:=0,logs:=fun _ => [],held:=[] } U∧Below w.heap.size w w' ∧ ∀ k,U k→w.heap.size ≤ k:=by
 have ho:=Mod.openSt_nought 122 (by omega)
 refine cxOpen_of bs _ hat (by rw [List.length_replicate]) ho rfl rfl ?_
 have:((List.range (122 - 2)).map fun _ => Mod.rc0)=List.replicate 120 Mod.rc0:=by rw [List.map_const'];simp
 rw [this]
 exact Mod.skLd_zero 120 0 _
end Go.Proofs.YtamafdcnbcoegabGreat
namespace Go.Proofs.YtamafdcnbcoegabGreat
open Go.RowKit
theorem takeIt_count (a:Mod.Sk) {s:Nat} (hs:s < 3) (got:List ByteArray):(takeIt a s got).count=a.count+got.length∧(takeIt a s got).epoch=a.epoch:=by
 refine ⟨?_,rfl⟩
 obtain rfl | rfl | rfl:s=0 ∨ s=1 ∨ s=2:=by omega
 all_goals
  simp [takeIt,grown,Mod.Sk.forget,Mod.Sk.count]
  omega
theorem skAfter_count (a:Mod.Sk) {s:Nat} (hs:s < 3) (q:Nat) (b:ByteArray):(skAfter a 3 a.epoch s q b).count=a.count+(a.commits 3 a.epoch s q b).length∧(skAfter a 3 a.epoch s q b).epoch=a.epoch:=by
 unfold skAfter
 split
 ·rename_i h
  rw [h]
  refine ⟨?_,holdIt_epoch _ _ _ _⟩
  unfold Mod.Sk.count
  rw [holdIt_logs]
  rfl
 ·exact takeIt_count a hs _
theorem skW_says (a:Mod.Sk) (l:List UInt8):a.count+a.epoch+skW a l ≤ (skSays a l).2.1.count+(skSays a l).2.1.epoch:=by
 cases hr:Wire.reads l
 ·rw [skSays_no hr,skW_no hr]
  exact Nat.le_refl _
 ·obtain ⟨k,e,s,q,b,h1,h2,h3,h4,h5,g1,g2,g3,g4⟩:=reads_parts hr
  rw [skSays_yes hr h1 h2 h3 h4 h5,(skW_yes hr h1 h2 h3 h4 h5).1]
  unfold skReply skWr
  by_cases k1:k=1
  ·simp only [if_pos k1]
   by_cases hlt:(e:Int) < a.epoch
   ·simp only [if_pos hlt]
    exact Nat.le_refl _
   ·simp only [if_neg hlt]
    have hE:(e:Int).toNat=e:=by omega
    rw [hE]
    have h1:(helloIt a e).epoch=e:=rfl
    have h2:(helloIt a e).count=a.count:=rfl
    rw [h1,h2]
    unfold hiW
    split <;> omega
  ·simp only [if_neg k1]
   by_cases k3:k=3
   ·simp only [if_pos k3]
    by_cases he:(e:Int)=a.epoch
    ·simp only [if_pos he]
     subst k3
     rw [he]
     obtain ⟨c1,c2⟩:=skAfter_count a g2 q b
     rw [c1,c2]
     omega
    ·simp only [if_neg he]
     exact Nat.le_refl _
   ·simp only [if_neg k3]
    exact Nat.le_refl _
def CsY (w:World) (v:Nat) (a:Mod.Sk) (U:Nat→Prop):Prop:=∃ ct,CxAt 1 ct 0 w v a U∧ct ≤ 1+(a.count+a.epoch)
theorem csY_deliver {w:World} {v:Nat} {a:Mod.Sk} {U:Nat→Prop} (bs:Value) (l:List UInt8) (h:CsY w v a U) (G:SkGood a) (hat:BytesAt w bs l) :
  Calls Tryz.prog 15 #[ptrTo v,bs] w fun r w' =>
   ∃ lv fs U',r = .returned (.tuple #[lv,.int .i64 (skSays a l).1])∧FramesOut w.heap.size w' lv fs (skSays a l).2.2 U' ∧ CsY w' v (skSays a l).2.1 U' ∧ Far U w w' ∧ ∀ k,U' k→U k ∨ w.heap.size ≤ k:=by
 obtain ⟨ct,h1,h2⟩:=h
 have g1:=G.room
 have g2:=G.ep
 have hw:=skW_says a l
 refine (cxDeliver_ok bs l h1 (by omega) G hat (.inl rfl)).mono ?_
 rintro r y ⟨lv,fs,U',rfl,m1,m2,m3,m4⟩
 rw [Nat.zero_sub] at m2
 exact ⟨lv,fs,U',rfl,m1,⟨_,m2,by omega⟩,m3,m4⟩
def theSinkY:SinkC where
 At:=CsY
 lt:=fun ⟨_,h,_⟩ => cxAt_lt h
 far:=fun ⟨ct,h,hc⟩ hF hE => ⟨ct,cxAt_far h hF hE,hc⟩
 deliver:=csY_deliver
 epoch:=fun ⟨_,h,_⟩ => (cxEpoch h).mono fun _ _ ⟨e,e2⟩ => ⟨e,by rw [e2];exact Below.refl _ _⟩
 log:=fun i ⟨_,h,_⟩ _ => cxLog i h
 opened:=fun bs hat => (cxOpen_zero bs hat).mono fun _ _ ⟨v,U,e,h,hb,hn⟩ => ⟨v,U,e,⟨1,h,by omega⟩,hb,hn⟩
end Go.Proofs.YtamafdcnbcoegabGreat
namespace Go.Proofs.YtamafdcnbcoegabGreat
namespace Mod
abbrev Pe:=Nat × ByteArray × Nat
def insP:List Pe→Pe→List Pe
 | [],e => [e]
 | y :: r,e => if e.1=y.1 then e :: r else if e.1 < y.1 then e :: y :: r else y :: insP r e
structure Ld where
 free:List Nat
 sh:Nat→List Pe
def ldStep (g:Nat→Nat) (x:Nat) (r:Rc) (l:Ld):Option Ld :=
 if r.q ≤ g r.s then some { l with free:=l.free ++ [x] }
 else if ((l.sh r.s).map (·.1)).contains r.q=true then none
 else some { l with sh:=fun i => if i=r.s then insP (l.sh r.s) (r.q,r.b,x) else l.sh i }
def ldAll (g:Nat→Nat):List Rc→Nat→Ld→Option Ld
 | [],_,l => some l
 | r :: rs,x,l => match ldStep g x r l with
  | none => none
  | some l' => ldAll g rs (x+1) l'
def lastP (l:List Pe) (b:Nat):Nat:=max (match l.getLast? with | none => 0 | some x => x.1) b
def okP (l:List Pe) (b:Nat):Bool:=decide (lastP l b ≤ 1073741824) && decide (lastP l b=b+l.length)
def ld0:Ld:=⟨[],fun _ => []⟩
def agOf (op:Nat) (g:Nat→Nat) (l:Ld):Ag:={ epoch:=op+1,ticks:=0,welcome:=false,fenced:=false,fl:=fun i => if i < 3 then { base:=g i,kept:=(l.sh i).map fun e => (e.2.1,0),held:=[] } else { base:=0,kept:=[],held:=[] } }
def agLoad (L:List UInt8):Option Ag :=
 match openSt L with
 | none => none
 | some (h,_,rs) => match ldAll h.num rs 0 ld0 with
  | none => none
  | some l => if okP (l.sh 0) (h.num 0)=true∧okP (l.sh 1) (h.num 1)=true∧okP (l.sh 2) (h.num 2)=true then some (agOf h.o h.num l) else none
def keptP:Nat→List (ByteArray × Nat)→List Nat→List Pe
 | b,x :: r,q :: qs => (b+1,x.1,q) :: keptP (b+1) r qs
 | _,_,_ => []
theorem keptP_length:∀ (b:Nat) (k:List (ByteArray × Nat)) (p:List Nat),p.length=k.length→(keptP b k p).length=k.length
 | _,[],[],_ => rfl
 | b,_ :: r,_ :: qs,h => by rw [keptP,List.length_cons,keptP_length (b+1) r qs (by simpa using h),List.length_cons]
theorem keptP_get:∀ (b:Nat) (k:List (ByteArray × Nat)) (p:List Nat) (j:Nat) (e:Pe),(keptP b k p)[j]? = some e→e.1=b+1+j∧(∃ t,k[j]? = some (e.2.1,t))∧p[j]? = some e.2.2
 | _,[],_,j,e,h => by simp [keptP] at h
 | _,_ :: _,[],j,e,h => by simp [keptP] at h
 | b,x :: r,q :: qs,0,e,h => by
  simp [keptP] at h
  subst h
  exact ⟨rfl,⟨x.2,rfl⟩,rfl⟩
 | b,x :: r,q :: qs,j+1,e,h => by
  rw [keptP,List.getElem?_cons_succ] at h
  obtain ⟨h1,h2,h3⟩:=keptP_get (b+1) r qs j e h
  exact ⟨by omega,h2,h3⟩
theorem keptP_gt:∀ (b:Nat) (k:List (ByteArray × Nat)) (p:List Nat),∀ e ∈ keptP b k p,b < e.1
 | _,[],_,e,h => by simp [keptP] at h
 | _,_ :: _,[],e,h => by simp [keptP] at h
 | b,x :: r,q :: qs,e,h => by
  rw [keptP] at h
  cases h with
  | head => show b < b+1;omega
  | tail _ h => have:=keptP_gt (b+1) r qs e h;omega
theorem keptP_sorted:∀ (b:Nat) (k:List (ByteArray × Nat)) (p:List Nat),(keptP b k p).Pairwise (fun x y => x.1 < y.1)
 | _,[],_ => by simp [keptP]
 | _,_ :: _,[] => by simp [keptP]
 | b,x :: r,q :: qs => by
  rw [keptP,List.pairwise_cons]
  exact ⟨fun e he => keptP_gt (b+1) r qs e he,keptP_sorted (b+1) r qs⟩
theorem keptP_places:∀ (b:Nat) (k:List (ByteArray × Nat)) (p:List Nat),p.length=k.length→(keptP b k p).map (·.2.2)=p
 | _,[],[],_ => rfl
 | b,_ :: r,q :: qs,h => by rw [keptP,List.map_cons,keptP_places (b+1) r qs (by simpa using h)]
theorem keptP_bodies:∀ (b:Nat) (k:List (ByteArray × Nat)) (p:List Nat),p.length=k.length→(keptP b k p).map (·.2.1)=k.map (·.1)
 | _,[],[],_ => rfl
 | b,_ :: r,q :: qs,h => by rw [keptP,List.map_cons,keptP_bodies (b+1) r qs (by simpa using h)];rfl
theorem keptP_lastP (b:Nat) (k:List (ByteArray × Nat)) (p:List Nat) (h:p.length=k.length):lastP (keptP b k p) b=b+k.length:=by
 have hl:=keptP_length b k p h
 unfold lastP
 rw [List.getLast?_eq_getElem?]
 cases hg:(keptP b k p)[(keptP b k p).length - 1]? with
 | none =>
  have:=List.getElem?_eq_none_iff.1 hg
  simp only
  omega
 | some e =>
  have h1:=(keptP_get _ _ _ _ _ hg).1
  have h2:=(List.getElem?_eq_some_iff.1 hg).1
  simp only
  omega
theorem insP_front {l:List Pe} {e:Pe} (h:∀ y ∈ l,e.1 < y.1):insP l e=e :: l:=by
 cases l with
 | nil => rfl
 | cons y r =>
  have:=h y (.head _)
  rw [insP,if_neg (by omega),if_pos this]
theorem insP_filter {p p':Pe→Bool} {e:Pe}:∀ (l:List Pe),l.Pairwise (fun x y => x.1 < y.1)→e ∈ l→p e=false→p' e=true→(∀ y ∈ l,y.1 ≠ e.1→p' y=p y)→l.filter p' = insP (l.filter p) e
 | [],_,h,_,_,_ => by cases h
 | y :: r,hs,hm,h1,h2,h3 => by
  rw [List.pairwise_cons] at hs
  by_cases hy:y.1=e.1
  ·have hye:y=e:=by
    cases hm with
    | head => rfl
    | tail _ hm => have:=hs.1 e hm;omega
   subst hye
   have hr:r.filter p' = r.filter p:=List.filter_congr fun z hz => h3 z (.tail _ hz) (by have:=hs.1 z hz;omega)
   rw [List.filter_cons_of_pos h2,List.filter_cons_of_neg (by simp [h1]),hr]
   exact (insP_front fun z hz => hs.1 z (List.mem_filter.1 hz).1).symm
  ·have hm':e ∈ r:=by
    cases hm with
    | head => exact absurd rfl hy
    | tail _ hm => exact hm
   have hlt:=hs.1 e hm'
   have ih:=insP_filter r hs.2 hm' h1 h2 (fun z hz => h3 z (.tail _ hz))
   have hpy:=h3 y (.head _) hy
   cases hp:p y with
   | true =>
    rw [List.filter_cons_of_pos (by rw [hpy,hp]),List.filter_cons_of_pos hp,ih,insP,if_neg (by omega),if_neg (by omega)]
   | false =>
    rw [List.filter_cons_of_neg (by rw [hpy,hp];simp),List.filter_cons_of_neg (by simp [hp]),ih]
structure Places (a:Ag) (free:List Nat) (pl:Nat→List Nat):Prop where
 pn:∀ i,i < 3→(pl i).length=(a.fl i).kept.length
 nd:(free ++ pl 0 ++ pl 1 ++ pl 2).Nodup
 lt:∀ x ∈ free ++ pl 0 ++ pl 1 ++ pl 2,x < 24
 sum:free.length+a.room=24
structure AgDisk (L:List UInt8) (op ct hd:Nat) (a:Ag) (free:List Nat) (pl:Nat→List Nat):Prop where
 ok:DiskOk L op ct hd (fun i => (a.fl i).base) 26
 rcs:∃ rc:Nat→Rc,(∀ x,x < 24→RecAt (sec L (2+x)) op (rc x))∧(∀ i,i < 3→∀ e ∈ keptP (a.fl i).base (a.fl i).kept (pl i),rc e.2.2=⟨i,e.1,e.2.1⟩)∧∀ x ∈ free,(rc x).s < 3∧(rc x).q ≤ (a.fl (rc x).s).base
theorem nodupLt:∀ (n:Nat) (l:List Nat),l.Nodup→(∀ x ∈ l,x < n)→l.length ≤ n
 | 0,[],_,_ => Nat.le_refl _
 | 0,x :: l,_,h => by have:=h x (.head _);omega
 | n+1,l,hn,h => by
  by_cases hm:n ∈ l
  ·have h1:=nodupLt n (l.erase n) (hn.erase n) (fun x hx => by
    have h2:=h x (List.mem_of_mem_erase hx)
    have h3:x ≠ n:=fun e => by
     subst e
     exact (List.Nodup.not_mem_erase hn) hx
    omega)
   have:=List.length_erase_of_mem hm
   omega
  ·have:=nodupLt n l hn (fun x hx => by
    have h2:=h x hx
    have h3:x ≠ n:=fun e => hm (by rw [← e];exact hx)
    omega)
   omega
theorem all_places {l:List Nat} {n:Nat} (hn:l.Nodup) (hl:∀ x ∈ l,x < n) (hc:l.length=n):∀ x,x < n→x ∈ l:=by
 intro x hx
 apply Classical.byContradiction
 intro hm
 have:=nodupLt n (x :: l) (List.nodup_cons.2 ⟨hm,hn⟩) (fun y hy => by
  cases hy with
  | head => exact hx
  | tail _ hy => exact hl y hy)
 simp at this
 omega
theorem nodup_ix {l:List Nat} (hn:l.Nodup) {i j x:Nat} (hi:l[i]? = some x) (hj:l[j]? = some x):i=j:=by
 obtain ⟨h1,e1⟩:=List.getElem?_eq_some_iff.1 hi
 obtain ⟨h2,e2⟩:=List.getElem?_eq_some_iff.1 hj
 rw [List.Nodup,List.pairwise_iff_getElem] at hn
 rcases Nat.lt_trichotomy i j with h | h | h
 ·exact absurd (e1.trans e2.symm) (hn i j h1 h2 h)
 ·exact h
 ·exact absurd (e2.trans e1.symm) (hn j i h2 h1 h)
theorem Places.all {a:Ag} {free:List Nat} {pl:Nat→List Nat} (P:Places a free pl):∀ x,x < 24→x ∈ free ∨ ∃ i,i < 3∧x ∈ pl i:=by
 have h0:=P.pn 0 (by omega)
 have h1:=P.pn 1 (by omega)
 have h2:=P.pn 2 (by omega)
 have hs:=P.sum
 unfold Ag.room at hs
 intro x hx
 have:=all_places P.nd P.lt (by simp;omega) x hx
 simp at this
 rcases this with h | h | h | h
 ·exact .inl h
 ·exact .inr ⟨0,by omega,h⟩
 ·exact .inr ⟨1,by omega,h⟩
 ·exact .inr ⟨2,by omega,h⟩
theorem Places.apart {a:Ag} {free:List Nat} {pl:Nat→List Nat} (P:Places a free pl):(∀ i,i < 3→(pl i).Nodup)∧(∀ x ∈ free,∀ i,i < 3→x ∉ pl i)∧∀ i j,i < 3→j < 3→i ≠ j→∀ x ∈ pl i,x ∉ pl j:=by
 have hnd:=P.nd
 rw [List.nodup_append,List.nodup_append,List.nodup_append] at hnd
 obtain ⟨⟨⟨n0,n1,n2⟩,n3,n4⟩,n5,n6⟩:=hnd
 refine ⟨fun i hi => ?_,fun x hx i hi hm => ?_,fun i j hi hj hne x hx hm => ?_⟩
 ·obtain rfl | rfl | rfl:i=0 ∨ i=1 ∨ i=2:=by omega
  ·exact n1
  ·exact n3
  ·exact n5
 ·obtain rfl | rfl | rfl:i=0 ∨ i=1 ∨ i=2:=by omega
  ·exact n2 x hx x hm rfl
  ·exact n4 x (by simp [hx]) x hm rfl
  ·exact n6 x (by simp [hx]) x hm rfl
 ·obtain rfl | rfl | rfl:i=0 ∨ i=1 ∨ i=2:=by omega
  all_goals obtain rfl | rfl | rfl:j=0 ∨ j=1 ∨ j=2:=by omega
  ·exact hne rfl
  ·exact n4 x (by simp [hx]) x hm rfl
  ·exact n6 x (by simp [hx]) x hm rfl
  ·exact n4 x (by simp [hm]) x hx rfl
  ·exact hne rfl
  ·exact n6 x (by simp [hx]) x hm rfl
  ·exact n6 x (by simp [hm]) x hx rfl
  ·exact n6 x (by simp [hm]) x hx rfl
  ·exact hne rfl
theorem ldAll_disk {a:Ag} {free:List Nat} {pl:Nat→List Nat} (P:Places a free pl) (rc:Nat→Rc) (hk:∀ i,i < 3→∀ e ∈ keptP (a.fl i).base (a.fl i).kept (pl i),rc e.2.2=⟨i,e.1,e.2.1⟩) (hf:∀ x ∈ free,(rc x).q ≤ (a.fl (rc x).s).base) :
  ∀ (n x:Nat) (l:Ld),x+n=24→(∀ i,i < 3→l.sh i=(keptP (a.fl i).base (a.fl i).kept (pl i)).filter fun e => decide (e.2.2 < x)) →
   ∃ l',ldAll (fun i => (a.fl i).base) ((List.range n).map fun j => rc (x+j)) x l=some l' ∧ ∀ i,i < 3→l'.sh i=keptP (a.fl i).base (a.fl i).kept (pl i):=by
 intro n
 induction n with
 | zero =>
  intro x l hx hl
  refine ⟨l,rfl,fun i hi => ?_⟩
  rw [hl i hi]
  refine List.filter_eq_self.2 fun e he => ?_
  have hp:e.2.2 ∈ pl i:=by
   rw [← keptP_places (a.fl i).base (a.fl i).kept (pl i) (P.pn i hi)]
   exact List.mem_map_of_mem he
  have:=P.lt e.2.2 (by
   obtain rfl | rfl | rfl:i=0 ∨ i=1 ∨ i=2:=by omega
   all_goals simp [hp])
  simp
  omega
 | succ n ih =>
  intro x l hx hl
  obtain ⟨p1,p2,p3⟩:=P.apart
  rw [List.range_succ_eq_map,List.map_cons,List.map_map]
  have hmap:(List.range n).map ((fun j => rc (x+j)) ∘ Nat.succ)=(List.range n).map fun j => rc (x+1+j):=by
   apply List.map_congr_left
   intro j _
   show rc (x+(j+1))=rc (x+1+j)
   congr 1
   omega
  rw [hmap,Nat.add_zero]
  unfold ldAll
  rcases P.all x (by omega) with hfx | ⟨i,hi,hix⟩
  ·have hq:=hf x hfx
   unfold ldStep
   rw [if_pos hq]
   simp only
   exact ih (x+1) { l with free:=l.free ++ [x] } (by omega) (fun i hi => by
    show l.sh i=_
    rw [hl i hi]
    refine List.filter_congr fun e he => ?_
    have hp:e.2.2 ∈ pl i:=by
     rw [← keptP_places (a.fl i).base (a.fl i).kept (pl i) (P.pn i hi)]
     exact List.mem_map_of_mem he
    have hne:e.2.2 ≠ x:=fun e0 => p2 x hfx i hi (by rw [← e0];exact hp)
    rw [decide_eq_decide]
    omega)
  ·obtain ⟨e,he,hex⟩:∃ e ∈ keptP (a.fl i).base (a.fl i).kept (pl i),e.2.2=x:=by
    rw [← keptP_places (a.fl i).base (a.fl i).kept (pl i) (P.pn i hi)] at hix
    obtain ⟨e,h1,h2⟩:=List.mem_map.1 hix
    exact ⟨e,h1,h2⟩
   have hrc:=hk i hi e he
   rw [hex] at hrc
   have hgt:=keptP_gt _ _ _ e he
   have hsrt:=keptP_sorted (a.fl i).base (a.fl i).kept (pl i)
   have huniq:∀ y ∈ keptP (a.fl i).base (a.fl i).kept (pl i),y.1=e.1→y=e:=by
    intro y hy h1
    obtain ⟨j1,hj1,e1⟩:=List.mem_iff_getElem.1 hy
    obtain ⟨j2,hj2,e2⟩:=List.mem_iff_getElem.1 he
    have k1:=(keptP_get _ _ _ j1 y (by rw [List.getElem?_eq_getElem hj1,e1])).1
    have k2:=(keptP_get _ _ _ j2 e (by rw [List.getElem?_eq_getElem hj2,e2])).1
    have:j1=j2:=by omega
    subst this
    rw [← e1,← e2]
   have hplace:∀ y ∈ keptP (a.fl i).base (a.fl i).kept (pl i),y.2.2=x→y=e:=by
    intro y hy h1
    obtain ⟨j1,hj1,e1⟩:=List.mem_iff_getElem.1 hy
    obtain ⟨j2,hj2,e2⟩:=List.mem_iff_getElem.1 he
    have k1:=(keptP_get _ _ _ j1 y (by rw [List.getElem?_eq_getElem hj1,e1])).2.2
    have k2:=(keptP_get _ _ _ j2 e (by rw [List.getElem?_eq_getElem hj2,e2])).2.2
    rw [h1] at k1
    rw [hex] at k2
    have:j1=j2:=nodup_ix (p1 i hi) k1 k2
    subst this
    rw [← e1,← e2]
   unfold ldStep
   rw [hrc]
   simp only
   rw [if_neg (by omega),hl i hi]
   have hno:(((keptP (a.fl i).base (a.fl i).kept (pl i)).filter fun e => decide (e.2.2 < x)).map (·.1)).contains e.1=false:=by
    cases hc:(((keptP (a.fl i).base (a.fl i).kept (pl i)).filter fun e => decide (e.2.2 < x)).map (·.1)).contains e.1 with
    | false => rfl
    | true =>
     rw [List.contains_iff_mem] at hc
     obtain ⟨y,hy,e1⟩:=List.mem_map.1 hc
     obtain ⟨y1,y2⟩:=List.mem_filter.1 hy
     have:=huniq y y1 e1
     subst this
     simp at y2
     omega
   rw [hno,if_neg (by simp)]
   simp only
   exact ih (x+1) { l with sh:=fun k => if k=i then insP ((keptP (a.fl i).base (a.fl i).kept (pl i)).filter fun e => decide (e.2.2 < x)) (e.1,e.2.1,x) else l.sh k } (by omega) (fun k hk3 => by
    show (if k=i then _ else l.sh k)=_
    by_cases hki:k=i
    ·subst hki
     rw [if_pos rfl]
     have hee:((e.1,e.2.1,x):Pe)=e:=by rw [← hex]
     rw [hee]
     exact (insP_filter _ hsrt he (by simp;omega) (by simp;omega) (fun y hy hne => by
      have:y.2.2 ≠ x:=fun h1 => hne (by rw [hplace y hy h1])
      rw [decide_eq_decide]
      omega)).symm
    ·rw [if_neg hki,hl k hk3]
     refine List.filter_congr fun y hy => ?_
     have hp:y.2.2 ∈ pl k:=by
      rw [← keptP_places (a.fl k).base (a.fl k).kept (pl k) (P.pn k hk3)]
      exact List.mem_map_of_mem hy
     have hne:y.2.2 ≠ x:=fun e0 => p3 k i hk3 hi hki x (by rw [← e0];exact hp) hix
     rw [decide_eq_decide]
     omega)
end Mod
end Go.Proofs.YtamafdcnbcoegabGreat
namespace Go.Proofs.YtamafdcnbcoegabGreat
namespace Mod
def reop (a:Ag):Ag:={ epoch:=a.epoch+1,ticks:=0,welcome:=false,fenced:=false,fl:=fun i => if i < 3 then { base:=(a.fl i).base,kept:=(a.fl i).kept.map fun x => (x.1,0),held:=[] } else { base:=0,kept:=[],held:=[] } }
theorem agLoad_of {L:List UInt8} {h:Hd} {at':Nat} {rs:List Rc} {l:Ld} (h1:openSt L=some (h,at',rs)) (h2:ldAll h.num rs 0 ld0=some l) (h3:∀ i,i < 3→okP (l.sh i) (h.num i)=true):agLoad L=some (agOf h.o h.num l):=by
 unfold agLoad
 rw [h1]
 simp only
 rw [h2]
 simp only
 rw [if_pos ⟨h3 0 (by omega),h3 1 (by omega),h3 2 (by omega)⟩]
theorem agLoad_some {L:List UInt8} {a:Ag} (h:agLoad L=some a):∃ hd at' rs l,openSt L=some (hd,at',rs)∧ldAll hd.num rs 0 ld0=some l∧(∀ i,i < 3→okP (l.sh i) (hd.num i)=true)∧a=agOf hd.o hd.num l:=by
 unfold agLoad at h
 cases ho:openSt L with
 | none => rw [ho] at h;cases h
 | some p =>
  obtain ⟨hd,at',rs⟩:=p
  rw [ho] at h
  simp only at h
  cases hl:ldAll hd.num rs 0 ld0 with
  | none => rw [hl] at h;cases h
  | some l =>
   rw [hl] at h
   simp only at h
   split at h
   ·rename_i hk
    cases h
    refine ⟨hd,at',rs,l,rfl,hl,fun i hi => ?_,rfl⟩
    obtain rfl | rfl | rfl:i=0 ∨ i=1 ∨ i=2:=by omega
    ·exact hk.1
    ·exact hk.2.1
    ·exact hk.2.2
   ·cases h
theorem num_fun (g:Nat→Nat) (op c i:Nat) (hi:i < 3):Hd.num ⟨op,c,g 0,g 1,g 2⟩ i=g i:=by
 unfold Hd.num
 obtain rfl | rfl | rfl:i=0 ∨ i=1 ∨ i=2:=by omega
 all_goals rfl
theorem ldAll_num {g g':Nat→Nat} (hg:∀ i,i < 3→g i=g' i):∀ (rs:List Rc) (x:Nat) (l:Ld),(∀ r ∈ rs,r.s < 3)→ldAll g rs x l=ldAll g' rs x l
 | [],_,_,_ => rfl
 | r :: rs,x,l,h => by
  have e:ldStep g x r l=ldStep g' x r l:=by unfold ldStep;rw [hg r.s (h r (.head _))]
  unfold ldAll
  rw [e]
  split
  ·rfl
  ·exact ldAll_num hg rs (x+1) _ (fun r' hr => h r' (.tail _ hr))
theorem AgDisk.loads {L:List UInt8} {op ct hd:Nat} {a:Ag} {free:List Nat} {pl:Nat→List Nat} (D:AgDisk L op ct hd a free pl) (P:Places a free pl) (he:a.epoch=op) (hop:op ≤ 1073741824) (hsum:∀ i,i < 3→(a.fl i).base+(a.fl i).kept.length ≤ 1073741824) :
  agLoad L=some (reop a):=by
 obtain ⟨rc,r1,r2,r3⟩:=D.rcs
 obtain ⟨c,ho⟩:=D.ok.opens hop rc (fun x hx => r1 x hx)
 obtain ⟨l,hl,hs⟩:=ldAll_disk P rc r2 (fun x hx => (r3 x hx).2) 24 0 ld0 (by omega) (fun i _ => (List.filter_eq_nil_iff.2 fun e _ => by simp).symm)
 have hrc:(List.range 24).map (fun j => rc (0+j))=(List.range (26 - 2)).map rc:=by
  apply List.map_congr_left
  intro j _
  rw [Nat.zero_add]
 rw [hrc] at hl
 have hnum:=fun i hi => num_fun (fun i => (a.fl i).base) op c i hi
 have hl2:ldAll (Hd.num ⟨op,c,(a.fl 0).base,(a.fl 1).base,(a.fl 2).base⟩) ((List.range (26 - 2)).map rc) 0 ld0=some l:=by
  rw [ldAll_num (g':=fun i => (a.fl i).base) hnum _ _ _ ?_]
  ·exact hl
  ·intro r hr
   obtain ⟨x,hx,rfl⟩:=List.mem_map.1 hr
   rcases r1 x (by simpa using hx) with ⟨_,e⟩ | ⟨_,_,_,_,_,_,hf,_⟩
   ·rw [e];simp [rc0]
   ·exact hf.1
 rw [agLoad_of ho hl2 (fun i hi => by
  rw [hnum i hi,hs i hi]
  have:=hsum i hi
  unfold okP
  rw [keptP_lastP _ _ _ (P.pn i hi),keptP_length _ _ _ (P.pn i hi)]
  simp
  omega)]
 unfold agOf reop
 congr 2
 ·rw [he]
 ·funext i
  by_cases hi:i < 3
  ·rw [if_pos hi,if_pos hi,hnum i hi,hs i hi]
   congr 1
   have:=keptP_bodies (a.fl i).base (a.fl i).kept (pl i) (P.pn i hi)
   have h2:=congrArg (List.map fun b:ByteArray => (b,0)) this
   rw [List.map_map,List.map_map] at h2
   exact h2
  ·rw [if_neg hi,if_neg hi]
theorem keptP_app:∀ (b:Nat) (k k':List (ByteArray × Nat)) (p p':List Nat),p.length=k.length→keptP b (k ++ k') (p ++ p')=keptP b k p ++ keptP (b+k.length) k' p'
 | b,[],k',[],p',_ => by simp [keptP]
 | b,[],k',q :: qs,p',h => by simp at h
 | b,x :: r,k',[],p',h => by simp at h
 | b,x :: r,k',q :: qs,p',h => by
  show keptP b (x :: (r ++ k')) (q :: (qs ++ p'))=_
  rw [keptP,keptP,keptP_app (b+1) r k' qs p' (by simpa using h),List.length_cons,show b+1+r.length=b+(r.length+1) by omega]
  rfl
theorem AgDisk.submit {L:List UInt8} {op ct hd:Nat} {a:Ag} {fr:List Nat} {x:Nat} {pl:Nat→List Nat} (D:AgDisk L op ct hd a (fr ++ [x]) pl) (P:Places a (fr ++ [x]) pl) {s:Nat} (hs:s < 3) {b:ByteArray} (hb:b.size ≤ 20) (hct:ct+1 < 18446744073709551616) (hq:(a.fl s).base+(a.fl s).kept.length+1 ≤ 2147483647) :
  AgDisk (setSec L (2+x) (sealR op (ct+1) ⟨s,(a.fl s).base+(a.fl s).kept.length+1,b⟩)) op (ct+1) hd (a.submit s b) fr (fun t => if t=s then pl s ++ [x] else pl t):=by
 obtain ⟨rc,r1,r2,r3⟩:=D.rcs
 have hx:x < 24:=P.lt x (by simp)
 have hS:(sealR op (ct+1) ⟨s,(a.fl s).base+(a.fl s).kept.length+1,b⟩).length=64:=length_sealR hb
 have hl:=D.ok.len
 have hfl:∀ j,(a.submit s b).fl j=if j=s then { a.fl s with kept:=(a.fl s).kept ++ [(b,0)] } else a.fl j:=fun j => rfl
 have hbase:∀ j,((a.submit s b).fl j).base=(a.fl j).base:=fun j => by
  rw [hfl]
  split
  ·rename_i e;rw [e]
  ·rfl
 have hfit:Rc.fits ⟨s,(a.fl s).base+(a.fl s).kept.length+1,b⟩:=⟨hs,by show 1 ≤ (a.fl s).base+_+1;omega,hq,hb⟩
 obtain ⟨p1,p2,p3⟩:=P.apart
 have hxp:∀ i,i < 3→x ∉ pl i:=p2 x (by simp)
 have hxf:x ∉ fr:=by
  have:=P.nd
  rw [List.nodup_append,List.nodup_append,List.nodup_append] at this
  obtain ⟨⟨⟨n0,_⟩,_⟩,_⟩:=this
  rw [List.nodup_append] at n0
  intro hm
  exact n0.2.2 x hm x (by simp) rfl
 have hok:=D.ok.record (x:=x) hS (by omega) hct
 have hbf:(fun i => ((a.submit s b).fl i).base)=fun i => (a.fl i).base:=funext hbase
 obtain ⟨rc',hrc⟩:∃ rc':Nat→Rc,∀ y,rc' y=if y=x then ⟨s,(a.fl s).base+(a.fl s).kept.length+1,b⟩ else rc y:=⟨_,fun _ => rfl⟩
 refine ⟨by rw [hbf];exact hok,rc',fun y hy => ?_,fun i hi e he => ?_,fun y hy => ?_⟩
 ·by_cases e:y=x
  ·subst e
   rw [hrc,if_pos rfl,sec_set hS (by omega)]
   exact .inr ⟨op,ct+1,D.ok.op1,Nat.le_refl _,D.ok.opm,hct,hfit,rfl⟩
  ·rw [hrc,if_neg e,sec_other hS (by omega) (by omega)]
   exact r1 y hy
 ·have hmem:∀ i,i < 3→∀ e ∈ keptP (a.fl i).base (a.fl i).kept (pl i),e.2.2 ≠ x:=fun i hi e he h1 => by
   apply hxp i hi
   rw [← keptP_places (a.fl i).base (a.fl i).kept (pl i) (P.pn i hi),← h1]
   exact List.mem_map_of_mem he
  by_cases hsi:i=s
  ·subst hsi
   rw [hfl,if_pos rfl,if_pos rfl,keptP_app _ _ _ _ _ (P.pn i hi),List.mem_append] at he
   rcases he with he | he
   ·rw [hrc,if_neg (hmem i hi e he)]
    exact r2 i hi e he
   ·simp only [keptP,List.mem_singleton] at he
    subst he
    rw [hrc,if_pos rfl]
  ·rw [hfl,if_neg hsi,if_neg hsi] at he
   rw [hrc,if_neg (hmem i hi e he)]
   exact r2 i hi e he
 ·have hyx:y ≠ x:=fun e => hxf (by rw [← e];exact hy)
  rw [hrc,if_neg hyx,hbase]
  exact r3 y (by simp [hy])
end Mod
end Go.Proofs.YtamafdcnbcoegabGreat
namespace Go.Proofs.YtamafdcnbcoegabGreat
namespace Mod
theorem insP_perm {e:Pe}:∀ {l:List Pe},(∀ y ∈ l,y.1 ≠ e.1)→(insP l e).Perm (e :: l)
 | [],_ => List.Perm.refl _
 | y :: r,h => by
  have h1:=h y (.head _)
  unfold insP
  rw [if_neg (fun e' => h1 e'.symm)]
  split
  ·exact List.Perm.refl _
  ·exact ((insP_perm (fun z hz => h z (.tail _ hz))).cons y).trans (List.Perm.swap e y r)
theorem insP_sorted {e:Pe}:∀ {l:List Pe},l.Pairwise (fun x y => x.1 < y.1)→(∀ y ∈ l,y.1 ≠ e.1)→(insP l e).Pairwise (fun x y => x.1 < y.1)
 | [],_,_ => by simp [insP]
 | y :: r,hs,h => by
  have h1:=h y (.head _)
  rw [List.pairwise_cons] at hs
  unfold insP
  rw [if_neg (fun e' => h1 e'.symm)]
  split
  ·rename_i hlt
   rw [List.pairwise_cons,List.pairwise_cons]
   refine ⟨fun z hz => ?_,hs.1,hs.2⟩
   cases hz with
   | head => exact hlt
   | tail _ hz => exact Nat.lt_trans hlt (hs.1 z hz)
  ·rename_i hlt
   rw [List.pairwise_cons]
   refine ⟨fun z hz => ?_,insP_sorted hs.2 (fun z hz => h z (.tail _ hz))⟩
   have:=(insP_perm (fun z hz => h z (.tail _ hz)):(insP r e).Perm (e :: r)).subset hz
   cases this with
   | head => omega
   | tail _ hz => exact hs.1 z hz
structure LdInv (g:Nat→Nat) (rs:List Rc) (x:Nat) (l:Ld):Prop where
 srt:∀ i,(l.sh i).Pairwise (fun y z => y.1 < z.1)
 rcd:∀ i,∀ e ∈ l.sh i,g i < e.1∧e.2.2 < x∧rs[e.2.2]? = some ⟨i,e.1,e.2.1⟩
 fre:∀ y ∈ l.free,y < x∧∃ r,rs[y]? = some r∧r.q ≤ g r.s
 nd:(l.free ++ (l.sh 0).map (·.2.2) ++ (l.sh 1).map (·.2.2) ++ (l.sh 2).map (·.2.2)).Nodup
 sum:l.free.length+(l.sh 0).length+(l.sh 1).length+(l.sh 2).length=x
theorem ldInv_zero (g:Nat→Nat) (rs:List Rc):LdInv g rs 0 ld0 :=
 ⟨fun i => List.Pairwise.nil,fun i e he => by simp [ld0] at he,fun y hy => by simp [ld0] at hy,by simp [ld0],rfl⟩
theorem LdInv.step {g:Nat→Nat} {rs:List Rc} {x:Nat} {l l':Ld} {r:Rc} (h:LdInv g rs x l) (hr:rs[x]? = some r) (hs:r.s < 3) (hl:ldStep g x r l=some l'):LdInv g rs (x+1) l':=by
 have hall:∀ y ∈ l.free ++ (l.sh 0).map (·.2.2) ++ (l.sh 1).map (·.2.2) ++ (l.sh 2).map (·.2.2),y < x:=by
  intro y hy
  simp only [List.mem_append,List.mem_map] at hy
  rcases hy with ((hy | ⟨e,he,rfl⟩) | ⟨e,he,rfl⟩) | ⟨e,he,rfl⟩
  ·exact (h.fre y hy).1
  ·exact (h.rcd 0 e he).2.1
  ·exact (h.rcd 1 e he).2.1
  ·exact (h.rcd 2 e he).2.1
 have hnx:x ∉ l.free ++ (l.sh 0).map (·.2.2) ++ (l.sh 1).map (·.2.2) ++ (l.sh 2).map (·.2.2):=fun hm => Nat.lt_irrefl _ (hall x hm)
 have hcons:=List.nodup_cons.2 ⟨hnx,h.nd⟩
 unfold ldStep at hl
 split at hl
 ·rename_i hq
  cases hl
  refine ⟨h.srt,fun i e he => ⟨(h.rcd i e he).1,Nat.lt_succ_of_lt (h.rcd i e he).2.1,(h.rcd i e he).2.2⟩,fun y hy => ?_,?_,?_⟩
  ·rw [List.mem_append,List.mem_singleton] at hy
   rcases hy with hy | rfl
   ·exact ⟨Nat.lt_succ_of_lt (h.fre y hy).1,(h.fre y hy).2⟩
   ·exact ⟨Nat.lt_succ_self _,r,hr,hq⟩
  ·refine (List.Perm.nodup_iff ?_).2 hcons
   simp only [List.append_assoc]
   exact List.perm_middle
  ·have:=h.sum
   simp only [List.length_append,List.length_singleton]
   omega
 ·rename_i hq
  split at hl
  ·cases hl
  ·rename_i hc
   cases hl
   have hk:∀ y ∈ l.sh r.s,y.1 ≠ r.q:=fun y hy e => hc (by
    rw [List.contains_iff_mem]
    exact List.mem_map.2 ⟨y,hy,e⟩)
   have hp:(insP (l.sh r.s) (r.q,r.b,x)).Perm ((r.q,r.b,x) :: l.sh r.s):=insP_perm hk
   have hpl:((insP (l.sh r.s) (r.q,r.b,x)).map (·.2.2)).Perm (x :: (l.sh r.s).map (·.2.2)):=hp.map _
   refine ⟨fun i => ?_,fun i e he => ?_,fun y hy => ⟨Nat.lt_succ_of_lt (h.fre y hy).1,(h.fre y hy).2⟩,?_,?_⟩
   ·show List.Pairwise _ (if i=r.s then insP (l.sh r.s) (r.q,r.b,x) else l.sh i)
    split
    ·exact insP_sorted (h.srt r.s) hk
    ·exact h.srt i
   ·have he':e ∈ (if i=r.s then insP (l.sh r.s) (r.q,r.b,x) else l.sh i):=he
    by_cases e0:i=r.s
    ·rw [if_pos e0] at he'
     have:=hp.subset he'
     cases this with
     | head => rw [e0];exact ⟨Nat.lt_of_not_le hq,Nat.lt_succ_self _,hr⟩
     | tail _ hm => rw [e0];exact ⟨(h.rcd r.s e hm).1,Nat.lt_succ_of_lt (h.rcd r.s e hm).2.1,(h.rcd r.s e hm).2.2⟩
    ·rw [if_neg e0] at he'
     exact ⟨(h.rcd i e he').1,Nat.lt_succ_of_lt (h.rcd i e he').2.1,(h.rcd i e he').2.2⟩
   ·refine (List.Perm.nodup_iff ?_).2 hcons
    show (l.free ++ (if 0=r.s then insP (l.sh r.s) (r.q,r.b,x) else l.sh 0).map (·.2.2) ++ (if 1=r.s then insP (l.sh r.s) (r.q,r.b,x) else l.sh 1).map (·.2.2) ++ (if 2=r.s then insP (l.sh r.s) (r.q,r.b,x) else l.sh 2).map (·.2.2)).Perm _
    obtain e | e | e:r.s=0 ∨ r.s=1 ∨ r.s=2:=by omega
    ·rw [e] at hpl ⊢
     rw [if_pos rfl,if_neg (by omega),if_neg (by omega)]
     simp only [List.append_assoc]
     exact ((List.Perm.append_left _ (List.Perm.append_right _ hpl))).trans List.perm_middle
    ·rw [e] at hpl ⊢
     rw [if_neg (by omega),if_pos rfl,if_neg (by omega)]
     simp only [List.append_assoc]
     refine (List.Perm.append_left _ (List.Perm.append_left _ (List.Perm.append_right _ hpl))).trans ?_
     rw [List.cons_append,← List.append_assoc l.free,← List.append_assoc l.free]
     exact List.perm_middle
    ·rw [e] at hpl ⊢
     rw [if_neg (by omega),if_neg (by omega),if_pos rfl]
     exact (List.Perm.append_left _ hpl).trans List.perm_middle
   ·have hlen:=hp.length_eq
    rw [List.length_cons] at hlen
    have:=h.sum
    show l.free.length+(if 0=r.s then insP (l.sh r.s) (r.q,r.b,x) else l.sh 0).length+(if 1=r.s then insP (l.sh r.s) (r.q,r.b,x) else l.sh 1).length+(if 2=r.s then insP (l.sh r.s) (r.q,r.b,x) else l.sh 2).length=x+1
    obtain e | e | e:r.s=0 ∨ r.s=1 ∨ r.s=2:=by omega
    ·rw [e] at hlen ⊢
     rw [if_pos rfl,if_neg (by omega),if_neg (by omega)]
     omega
    ·rw [e] at hlen ⊢
     rw [if_neg (by omega),if_pos rfl,if_neg (by omega)]
     omega
    ·rw [e] at hlen ⊢
     rw [if_neg (by omega),if_neg (by omega),if_pos rfl]
     omega
theorem ldInv_all {g:Nat→Nat} {rs:List Rc}:∀ (qs:List Rc) (x:Nat) (l l':Ld),(∀ j,qs[j]? = rs[x+j]?)→(∀ r ∈ qs,r.s < 3)→LdInv g rs x l→ldAll g qs x l=some l' → LdInv g rs (x+qs.length) l'
 | [],x,l,l',_,_,h,hl => by cases hl;exact h
 | r :: qs,x,l,l',hq,hs,h,hl => by
  unfold ldAll at hl
  cases hst:ldStep g x r l with
  | none => rw [hst] at hl;cases hl
  | some l2 =>
   rw [hst] at hl
   have h0:=hq 0
   rw [List.getElem?_cons_zero,Nat.add_zero] at h0
   have:=ldInv_all qs (x+1) l2 l' (fun j => by
    have:=hq (j+1)
    rw [List.getElem?_cons_succ] at this
    rw [this]
    congr 1
    omega) (fun r' hr => hs r' (.tail _ hr)) (h.step h0.symm (hs r (.head _)) hst) hl
   rw [List.length_cons,show x+(qs.length+1)=x+1+qs.length by omega]
   exact this
theorem sorted_room:∀ (r:List Pe) (c u:Nat),c ≤ u→r.Pairwise (fun x y => x.1 < y.1)→(∀ y ∈ r,c < y.1∧y.1 ≤ u)→c+r.length ≤ u
 | [],c,u,h,_,_ => by simpa using h
 | y :: r,c,u,h,hs,hy => by
  rw [List.pairwise_cons] at hs
  have h1:=hy y (.head _)
  have:=sorted_room r y.1 u h1.2 hs.2 (fun z hz => ⟨hs.1 z hz,(hy z (.tail _ hz)).2⟩)
  rw [List.length_cons]
  omega
theorem keptP_of:∀ (l:List Pe) (b:Nat),l.Pairwise (fun x y => x.1 < y.1)→(∀ e ∈ l,b < e.1∧e.1 ≤ b+l.length)→keptP b (l.map fun e => (e.2.1,0)) (l.map (·.2.2))=l
 | [],_,_,_ => rfl
 | e :: r,b,hs,hb => by
  rw [List.pairwise_cons] at hs
  have h1:=hb e (.head _)
  rw [List.length_cons] at h1
  have h2:=sorted_room r e.1 (b+(r.length+1)) h1.2 hs.2 (fun z hz => ⟨hs.1 z hz,by have:=(hb z (.tail _ hz)).2;rw [List.length_cons] at this;exact this⟩)
  have h3:e.1=b+1:=by omega
  rw [List.map_cons,List.map_cons,keptP]
  have:=keptP_of r (b+1) hs.2 (fun z hz => ⟨by have:=hs.1 z hz;omega,by have:=(hb z (.tail _ hz)).2;rw [List.length_cons] at this;omega⟩)
  rw [this,← h3]
theorem lastP_bound {l:List Pe} {b:Nat} (hs:l.Pairwise (fun x y => x.1 < y.1)):∀ e ∈ l,e.1 ≤ lastP l b:=by
 intro e he
 obtain ⟨j,hj,e0⟩:=List.mem_iff_getElem.1 he
 unfold lastP
 rw [List.getLast?_eq_getElem?,List.getElem?_eq_getElem (by omega:l.length - 1 < l.length)]
 simp only
 by_cases h:j=l.length - 1
 ·subst h
  rw [← e0]
  omega
 ·have:=List.pairwise_iff_getElem.1 hs j (l.length - 1) hj (by omega) (by omega)
  rw [e0] at this
  omega
def plOf (l:Ld) (i:Nat):List Nat:=(l.sh i).map (·.2.2)
theorem agDisk_opened {L:List UInt8} {hd:Hd} {at':Nat} {rs:List Rc} {l:Ld} (ho:openSt L=some (hd,at',rs)) (hl:ldAll hd.num rs 0 ld0=some l) (hk:∀ i,i < 3→okP (l.sh i) (hd.num i)=true) (hlen:L.length=1664) :
  AgDisk (openL L hd at') (hd.o+1) 1 (1 - at') (agOf hd.o hd.num l) l.free (plOf l)∧Places (agOf hd.o hd.num l) l.free (plOf l)∧(∀ i,i < 3→keptP (hd.num i) ((l.sh i).map fun e => (e.2.1,0)) (plOf l i)=l.sh i):=by
 obtain ⟨hn,hr⟩:=openSt_some ho
 rw [hlen] at hr
 obtain ⟨r1,r2⟩:=recsFrom_some _ _ hr
 have hat:∀ x,x < 24→RecAt (sec L (2+x)) (hd.o+1) (rs.getD x rc0):=fun x hx => by
  obtain ⟨k1,k2⟩:=r2 x hx
  rw [Nat.zero_add] at k1 k2
  rw [List.getD_eq_getElem?_getD,k2]
  exact (recAt_ok k1).up (by omega)
 have hsm:∀ r ∈ rs,r.s < 3:=fun r hr => by
  obtain ⟨x,hx,e⟩:=List.mem_iff_getElem.1 hr
  obtain ⟨k1,k2⟩:=r2 x (by omega)
  rw [List.getElem?_eq_getElem hx,e] at k2
  cases k2
  exact (recOk_small k1).1
 have hI:=ldInv_all (g:=hd.num) (rs:=rs) rs 0 ld0 l (fun j => by rw [Nat.zero_add]) hsm (ldInv_zero _ _) hl
 have hrl:rs.length=24:=r1
 rw [hrl,Nat.zero_add] at hI
 have hok:=opened_ok hn (m:=26) (by omega) (by omega)
 have hkp:∀ i,i < 3→keptP (hd.num i) ((l.sh i).map fun e => (e.2.1,0)) (plOf l i)=l.sh i:=fun i hi => by
  refine keptP_of _ _ (hI.srt i) (fun e he => ⟨(hI.rcd i e he).1,?_⟩)
  have h1:=hk i hi
  unfold okP at h1
  simp only [Bool.and_eq_true,decide_eq_true_eq] at h1
  rw [← h1.2]
  exact lastP_bound (hI.srt i) e he
 have hbs:∀ i,i < 3→((agOf hd.o hd.num l).fl i).base=hd.num i:=fun i hi => by unfold agOf;simp only;rw [if_pos hi]
 have hkt:∀ i,i < 3→((agOf hd.o hd.num l).fl i).kept=(l.sh i).map fun e => (e.2.1,0):=fun i hi => by unfold agOf;simp only;rw [if_pos hi]
 refine ⟨⟨⟨hok.len,hok.two,hok.hd1,hok.op1,hok.opm,hok.ctm,fun i hi => by rw [hbs i hi];exact hok.sm i hi,?_⟩,fun x => rs.getD x rc0,fun x hx => ?_,fun i hi e he => ?_,fun x hx => ?_⟩,⟨fun i hi => ?_,hI.nd,fun x hx => ?_,?_⟩,hkp⟩
 ·rw [hbs 0 (by omega),hbs 1 (by omega),hbs 2 (by omega)]
  exact hok.hs
 ·rw [openL_other (m:=26) (by omega) (by omega) (by omega)]
  exact hat x hx
 ·rw [hbs i hi,hkt i hi,hkp i hi] at he
  show rs.getD e.2.2 rc0=_
  rw [List.getD_eq_getElem?_getD,(hI.rcd i e he).2.2]
  rfl
 ·obtain ⟨_,r,h1,h2⟩:=hI.fre x hx
  have:rs.getD x rc0=r:=by rw [List.getD_eq_getElem?_getD,h1];rfl
  show (rs.getD x rc0).s < 3∧(rs.getD x rc0).q ≤ ((agOf hd.o hd.num l).fl (rs.getD x rc0).s).base
  rw [this]
  have h3:=hsm r (List.mem_of_getElem? h1)
  exact ⟨h3,by rw [hbs _ h3];exact h2⟩
 ·rw [hkt i hi]
  simp [plOf]
 ·simp only [List.mem_append,plOf,List.mem_map] at hx
  rcases hx with ((hx | ⟨e,he,rfl⟩) | ⟨e,he,rfl⟩) | ⟨e,he,rfl⟩
  ·exact (hI.fre x hx).1
  ·exact (hI.rcd 0 e he).2.1
  ·exact (hI.rcd 1 e he).2.1
  ·exact (hI.rcd 2 e he).2.1
 ·have:=hI.sum
  unfold Ag.room
  rw [hkt 0 (by omega),hkt 1 (by omega),hkt 2 (by omega)]
  simp only [List.length_map]
  omega
end Mod
end Go.Proofs.YtamafdcnbcoegabGreat
namespace Go.Proofs.YtamafdcnbcoegabGreat
namespace Mod
theorem headOk_late {h:Hd} (h1:1073741824 < h.o) (h2:h.o < 4294967296):headOk (sealH h)=false:=by
 have e0:=opOf_seal (c:=h.c) (ins:=headIn h.a h.b h.d) (o:=h.o) h2
 have e1:opOf (sealH h)=h.o:=e0
 unfold headOk
 rw [e1]
 have hn:sealH h ≠ nought:=fun e => by
  rw [e,opOf_nought] at e1
  omega
 have hs:isStamp h.o=false:=by simp [isStamp];omega
 simp [hn,hs]
theorem openSt_late {L:List UInt8} {op ct hd:Nat} {g:Nat→Nat} {m:Nat} (D:DiskOk L op ct hd g m) (h:1073741824 < op):openSt L=none:=by
 obtain ⟨c,h1,h2,h3⟩:=D.hs
 have hk:headOk (sec L hd)=false:=by
  rw [h2]
  exact headOk_late (h:=⟨op,c,g 0,g 1,g 2⟩) h D.opm
 have hn:newest L=none:=by
  unfold newest
  have hh:=D.hd1
  obtain rfl | rfl:hd=0 ∨ hd=1:=by omega
  ·rw [hk,if_neg (by simp)]
  ·rw [hk,if_neg (by simp)]
 unfold openSt
 rw [hn]
theorem AgDisk.again {L:List UInt8} {op ct hd:Nat} {a:Ag} {free:List Nat} {pl:Nat→List Nat} (D:AgDisk L op ct hd a free pl) (P:Places a free pl) (he:a.epoch=op)
  {h':Hd} {at':Nat} {rs:List Rc} {l:Ld} (ho:openSt L=some (h',at',rs)) (hl:ldAll h'.num rs 0 ld0=some l) (hk:∀ i,i < 3→okP (l.sh i) (h'.num i)=true):h'.o=op∧agOf h'.o h'.num l=reop a:=by
 by_cases hop:op ≤ 1073741824
 ·obtain ⟨rc,r1,r2,r3⟩:=D.rcs
  obtain ⟨c,ho2⟩:=D.ok.opens hop rc (fun x hx => r1 x hx)
  obtain ⟨l2,hl2,hs⟩:=ldAll_disk P rc r2 (fun x hx => (r3 x hx).2) 24 0 ld0 (by omega) (fun i _ => (List.filter_eq_nil_iff.2 fun e _ => by simp).symm)
  have hrc:(List.range 24).map (fun j => rc (0+j))=(List.range (26 - 2)).map rc:=by
   apply List.map_congr_left
   intro j _
   rw [Nat.zero_add]
  rw [hrc] at hl2
  have hnum:=fun i hi => num_fun (fun i => (a.fl i).base) op c i hi
  have hl3:ldAll (Hd.num ⟨op,c,(a.fl 0).base,(a.fl 1).base,(a.fl 2).base⟩) ((List.range (26 - 2)).map rc) 0 ld0=some l2:=by
   rw [ldAll_num (g':=fun i => (a.fl i).base) hnum _ _ _ ?_]
   ·exact hl2
   ·intro r hr
    obtain ⟨x,hx,rfl⟩:=List.mem_map.1 hr
    rcases r1 x (by simpa using hx) with ⟨_,e⟩ | ⟨_,_,_,_,_,_,hf,_⟩
    ·rw [e];simp [rc0]
    ·exact hf.1
  rw [ho2] at ho
  injection ho with ho
  injection ho with ho1 ho
  injection ho with ho3 ho4
  subst ho1
  subst ho4
  rw [hl3] at hl
  injection hl with hl
  subst hl
  have hsum:∀ i,i < 3→(a.fl i).base+(a.fl i).kept.length ≤ 1073741824:=fun i hi => by
   have:=hk i hi
   rw [hnum i hi,hs i hi] at this
   unfold okP at this
   rw [keptP_lastP _ _ _ (P.pn i hi)] at this
   simp at this
   omega
  refine ⟨rfl,?_⟩
  have e1:=D.loads P he hop hsum
  rw [agLoad_of ho2 hl3 hk] at e1
  injection e1
 ·rw [openSt_late D.ok (by omega)] at ho
  cases ho
theorem SkDisk.again {L:List UInt8} {op ct hd e:Nat} {lg:Nat→List ByteArray} (D:SkDisk L op ct hd e lg) {h':Hd} {at':Nat} {rs:List Rc} {lg':Nat→List ByteArray} (ho:openSt L=some (h',at',rs)) (hl:skLd rs 0 (fun _ => [])=some lg'):h'.a=e∧lg' = lg:=by
 by_cases hop:op ≤ 1073741824
 ·have e1:=D.loads hop
  obtain ⟨h2,at2,rs2,k1,k2,k3,k4,k5,k6⟩:=skLoad_some e1
  rw [ho] at k1
  injection k1 with k1
  injection k1 with k1 k7
  injection k7 with k7 k8
  subst k1
  subst k8
  rw [hl] at k6
  injection k6 with k6
  exact ⟨k4.symm,k6⟩
 ·rw [openSt_late D.ok (by omega)] at ho
  cases ho
theorem opened_small {L:List UInt8} {h:Hd} {at':Nat} {rs:List Rc} {l:Ld} (ho:openSt L=some (h,at',rs)) (hk:∀ i,i < 3→okP (l.sh i) (h.num i)=true) :
  (agOf h.o h.num l).epoch ≤ 1073741825∧(∀ i,i < 3→((agOf h.o h.num l).fl i).base+((agOf h.o h.num l).fl i).kept.length ≤ 1073741824):=by
 obtain ⟨hne,_⟩:=openSt_some ho
 obtain ⟨_,hok,hhd,_⟩:=newest_some hne
 have hsm:=headIs_small hok
 rw [← hhd] at hsm
 refine ⟨by show h.o+1 ≤ _;omega,fun i hi => ?_⟩
 have:=hk i hi
 unfold okP at this
 simp at this
 unfold agOf
 simp only
 rw [if_pos hi]
 simp only [List.length_map]
 omega
end Mod
end Go.Proofs.YtamafdcnbcoegabGreat
namespace Go.Proofs.YtamafdcnbcoegabGreat
open Go.RowKit
structure AlvA (op ct n:Nat) (st:Mod.Stv) (a:Mod.Ag) (free:List Nat) (pl:Nat→List Nat):Prop where
 dead:st.dk.dead=false
 arm:st.dk.armed=n
 op:st.opening=op
 ct:st.count ≤ ct
 dk:Mod.AgDisk st.dk.bytes st.opening st.count st.head a free pl
theorem OnAg.places {a:Mod.Ag} {op:Nat} {g:Nat→Nat} {free:List Nat} {sh:Nat→List (Nat × Value)} {pl:Nat→List Nat} (O:OnAg a op g free sh pl):Mod.Places a free pl:=⟨O.pn,O.nd,O.lt,O.sum⟩
theorem alvA_next {op ct n:Nat} {st:Mod.Stv} {a:Mod.Ag} {free:List Nat} {pl:Nat→List Nat} (h:AlvA op ct n st a free pl) (hct:ct+1 < 18446744073709551616):st.next=st.count+1:=by
 have:=h.ct
 unfold Mod.Stv.next
 omega
theorem alvA_rec {op ct n:Nat} {st:Mod.Stv} {a:Mod.Ag} {fr:List Nat} {q:Nat} {pl:Nat→List Nat} (h:AlvA op ct n st a (fr ++ [q]) pl) (hct:ct+1000 < 18446744073709551616) (hn:n ≠ 1) (P:Mod.Places a (fr ++ [q]) pl) {i:Nat} (hi:i < 3) {s:ByteArray} (hb:s.size ≤ 20) (hq:(a.fl i).base+(a.fl i).kept.length < 2147483647) :
  (st.putRecord q i ((a.fl i).base+(a.fl i).kept.length+1) s.data.toList).1=0∧AlvA op (ct+1) (n - 1) (st.putRecord q i ((a.fl i).base+(a.fl i).kept.length+1) s.data.toList).2 (a.submit i s) fr (fun t => if t=i then pl i ++ [q] else pl t):=by
 have hnx:=alvA_next h (by omega)
 have hd:=h.dk.submit P hi hb (by have:=h.ct;omega) (by omega)
 have h1:=h.dead
 have h2:=h.arm
 have h3:=h.ct
 unfold Mod.Stv.putRecord Mod.Dk.put
 rw [if_neg (by rw [h1];simp),if_neg (by rw [h2];exact hn),hnx]
 exact ⟨rfl,rfl,by show st.dk.armed - 1=n - 1;rw [h2],h.op,by show st.count+1 ≤ ct+1;omega,hd⟩
theorem AlvA.sound {op ct:Nat} {st:Mod.Stv} {a:Mod.Ag} {free:List Nat} {pl:Nat→List Nat} (h:AlvA op ct 0 st a free pl):Sound st:=⟨h.dead,h.arm⟩
def AgIs2 (op ct n:Nat) (w x:World) (p:Nat) (a:Mod.Ag) (c:Av):Prop :=
 ∃ g free sh pl st,PaStep w x p g a.ticks a.welcome a.fenced free sh st c∧AlvA op ct n st a free pl∧OnAg a st.opening g free sh pl
section
variable {w x y:World} {p:Nat} {g:Nat→Nat} {tk:Nat} {wel fen:Bool} {free:List Nat} {sh:Nat→List (Nat × Value)} {st st2:Mod.Stv} {c:Av} {a:Mod.Ag} {op ct n:Nat} {pl:Nat→List Nat}
set_option maxRecDepth 100000 in
set_option maxHeartbeats 2000000 in
theorem agSubmit_no2 (H:PaAt w p g a.ticks a.welcome a.fenced free sh st c) (hs:st.dk.dead=false) (O:OnAg a st.opening g free sh pl) (i:Int) (s:ByteArray) (hr:a.refuses i s.size ≠ 0) :
  Calls Tryz.prog 50 #[ptrTo p,.int .i64 i,.string s] w fun r z => r = .returned (.int .i64 (a.refuses i s.size))∧z=w:=by
 have c0:w.cell? ⟨p,0,none⟩=some (ptrTo c.s):=by rw [blk_cell H.ks.blk,H.ks.a0]
 have hID:=storeIsDead_any H.stt
 rw [hs] at hID
 have HID:=hide hID
 obtain ⟨ad,cap,hfv,_⟩:=H.ks.fr.shape
 have c22:w.cell? ⟨p,22,none⟩=some (.slice ad free.length cap):=by rw [blk_cell H.ks.blk,H.ks.af,hfv]
 have hsum:=O.sum
 obtain ⟨m,hm⟩:∃ m,m=free.length:=⟨_,rfl⟩
 rw [← hm] at c22 hsum
 have HIS:=hide (isStream_any i w)
 obtain ⟨e,he⟩:∃ e,e=a.refuses i s.size:=⟨_,rfl⟩
 rw [← he]
 have hcase:(Wire.isStr i=false∧e=5) ∨ (Wire.isStr i=true∧20 < s.size∧e=6) ∨ (Wire.isStr i=true∧¬ 20 < s.size∧m=0∧e=7):=by
  unfold Mod.Ag.refuses at he hr
  by_cases h1:i < 0 ∨ 3 ≤ i
  ·rw [if_pos h1] at he
   refine .inl ⟨?_,he⟩
   cases hc:Wire.isStr i
   ·rfl
   ·simp [Wire.isStr] at hc;omega
  ·rw [if_neg h1] at he hr
   have hst:Wire.isStr i=true:=by simp [Wire.isStr];omega
   by_cases h2:20 < s.size
   ·rw [if_pos h2] at he
    exact .inr (.inl ⟨hst,h2,he⟩)
   ·rw [if_neg h2] at he hr
    by_cases h3:24 ≤ a.room
    ·rw [if_pos h3] at he
     exact .inr (.inr ⟨hst,h2,by omega,he⟩)
    ·rw [if_neg h3] at hr
     exact absurd rfl hr
 clear H hID hfv hm hr he O hsum
 unfold ptrTo at *
 rcases hcase with ⟨h1,rfl⟩ | ⟨h1,h2,rfl⟩ | ⟨h1,h2,rfl,rfl⟩
 ·rw [h1] at HIS
  go_enter Tryz.func50,Tryz.ntmps50
  go_wp2_with (first | (go_at_call 66;refine (unhide HID).mono ?_;rintro r y ⟨rfl,hyw⟩;obtain rfl:w=y:=hyw.symm) | (go_at_call 71;refine (unhide HIS).mono ?_;rintro r y ⟨rfl,hyw⟩;obtain rfl:w=y:=hyw.symm))
  go_ret
  exact ⟨rfl,rfl⟩
 ·rw [h1] at HIS
  have h2':(20:Int) < (s.size:Int):=by omega
  go_enter Tryz.func50,Tryz.ntmps50
  go_wp2_with (first | (go_at_call 66;refine (unhide HID).mono ?_;rintro r y ⟨rfl,hyw⟩;obtain rfl:w=y:=hyw.symm) | (go_at_call 71;refine (unhide HIS).mono ?_;rintro r y ⟨rfl,hyw⟩;obtain rfl:w=y:=hyw.symm))
  go_ret
  exact ⟨rfl,rfl⟩
 ·rw [h1] at HIS
  have h2':¬ (20:Int) < (s.size:Int):=by omega
  go_enter Tryz.func50,Tryz.ntmps50
  go_wp2_with (first | (go_at_call 66;refine (unhide HID).mono ?_;rintro r y ⟨rfl,hyw⟩;obtain rfl:w=y:=hyw.symm) | (go_at_call 71;refine (unhide HIS).mono ?_;rintro r y ⟨rfl,hyw⟩;obtain rfl:w=y:=hyw.symm))
  go_ret
  exact ⟨rfl,rfl⟩
set_option maxRecDepth 100000 in
set_option maxHeartbeats 4000000 in
theorem agSubmit_ok2 (H:PaAt w p g a.ticks a.welcome a.fenced free sh st c) (hs:AlvA op ct n st a free pl) (hct:ct+1000 < 18446744073709551616) (hnn:n ≠ 1) (O:OnAg a st.opening g free sh pl) {i:Nat} (hi:i < 3) (s:ByteArray) (hsz:s.size ≤ 20) (hroom:a.room < 24) (hsum:(a.fl i).base+(a.fl i).kept.length < 2147483647) :
  Calls Tryz.prog 50 #[ptrTo p,.int .i64 i,.string s] w fun r z => r = .returned (.int .i64 0)∧AgIs2 op (ct+1) (n - 1) w z p (a.submit i s) c:=by
 have hne:free ≠ []:=fun h => by have:=O.sum;rw [h] at this;simp at this;omega
 obtain ⟨fr,q,rfl⟩:∃ fr q,free=fr ++ [q]:=by
  rcases List.eq_nil_or_concat free with h | ⟨l,x,h⟩
  ·exact absurd h hne
  ·exact ⟨l,x,by rw [h,List.concat_eq_append]⟩
 have hq:q < 24:=O.lt q (by simp)
 have hALV:=alvA_rec hs hct hnn O.places hi hsz hsum
 have hdd:=hs.dead
 clear hct hnn hs
 have c0:w.cell? ⟨p,0,none⟩=some (ptrTo c.s):=by rw [blk_cell H.ks.blk,H.ks.a0]
 have hID:=storeIsDead_any H.stt
 rw [hdd] at hID
 have HID:=hide hID
 have hst:Wire.isStr (i:Int)=true:=by simp [Wire.isStr];omega
 have hIS:=isStream_any (i:Int) w
 rw [hst] at hIS
 have HIS:=hide hIS
 obtain ⟨ad,cap,hfv,_,_,hfc⟩:=H.ks.fr.shape
 have hlen:(fr ++ [q]).length=fr.length+1:=by simp
 rw [hlen] at hfv hfc
 obtain ⟨gf,of,rfl,hfc2⟩:=hfc (by omega)
 have c22:w.cell? ⟨p,22,none⟩=some (.slice (some ⟨gf,of,none⟩) (fr.length+1) cap):=by rw [blk_cell H.ks.blk,H.ks.af,hfv]
 have cq:w.cell? ⟨gf,of+fr.length,none⟩=some (.int .i64 q):=by
  rw [hfc2 fr.length (by omega)]
  simp [numCells]
 have hm24:fr.length+1 ≤ 24:=by have:=O.sum;simp at this;omega
 obtain ⟨m,hm⟩:∃ m,m=fr.length:=⟨_,rfl⟩
 rw [← hm] at c22 cq hm24 hfv
 have hwl:IntKind.i64.wrap (((m+1:Nat):Int) - 1)=(m:Int):=by rw [IntKind.wrap_i64];omega
 have hwl2:IntKind.i64.wrap ((m:Int)+1 - 1)=(m:Int):=by rw [IntKind.wrap_i64];omega
 have hwm:IntKind.i64.wrap (m:Int)=(m:Int):=by rw [IntKind.wrap_i64];omega
 have hm1:(0:Int) ≤ (m:Int):=by omega
 have hm2:(m:Int) < ((m+1:Nat):Int):=by omega
 have hm3:(m:Int) < (m:Int)+1:=by omega
 have hm0:(((m+1:Nat):Int) == 0)=false:=by simp;omega
 have hm0':((m:Int)+1 == 0)=false:=by simp;omega
 obtain ⟨bl,hbl⟩:∃ bl,bl=(a.fl i).base+(a.fl i).kept.length:=⟨_,rfl⟩
 have hLst:=fun n => agLast_any (H.below (below_drewN (Below.refl _ _) n)) O hi (O.bs i hi)
 rw [← hbl] at hLst hsum
 have HLst:=fun n => hide (hLst n)
 have hws:IntKind.i64.wrap ((bl:Int)+1)=((bl+1:Nat):Int):=by rw [IntKind.wrap_i64];omega
 obtain ⟨sq,hsq⟩:∃ sq,sq=bl+1:=⟨_,rfl⟩
 rw [← hsq] at hws
 obtain ⟨h0,hs2⟩:=hALV
 rw [← hbl,← hsq] at h0 hs2
 have hslen:s.data.toList.length=s.size:=by simp
 have hpr:=putRecord_len (st:=st) q i sq s.data.toList (by omega) (by rw [H.len];omega)
 rw [H.len] at hpr
 have hWR:=fun y (hy:Below w.heap.size w y) => writeRecord_any y c.s c.dp st c.dlv c.duv (H.below hy).stt q i sq s (by rw [H.len];omega) (by omega) (by omega) hsz
 have hop:(st.putRecord q i sq s.data.toList).2.opening=st.opening:=rfl
 obtain ⟨st2,hst2⟩:∃ st2,st2=(st.putRecord q i sq s.data.toList).2:=⟨_,rfl⟩
 rw [← hst2] at hs2 hpr hop
 rw [h0,← hst2] at hWR
 have HWR:=fun y hy => hide (hWR y hy)
 have h20:¬ (20:Int) < (s.size:Int):=by omega
 have hi0:(0:Int) ≤ (i:Int):=by omega
 have hi3:(i:Int) < 3:=by omega
 have HFACT:=hide (And.intro hs2 (And.intro hpr (And.intro hop (And.intro hm (And.intro hbl (And.intro hsq hfv))))))
 have HO:=hide O
 have HH:=hide H
 have hpl:=lt_of_block H.ks.blk
 have hSC:=fun y => hide (strClone_any s y (by omega))
 clear H O hID hIS hst hWR hs2 hpr hop hm hbl hsq hfv hLst h0 hst2 hfc hfc2 hslen hlen hne hroom hsum hsz hdd
 unfold ptrTo at *
 go_enter Tryz.func50,Tryz.ntmps50
 go_upto_region 9 with (first | (go_at_call 66;refine (unhide HID).mono ?_;rintro r y ⟨rfl,hyw⟩;obtain rfl:w=y:=hyw.symm) | (go_at_call 71;refine (unhide HIS).mono ?_;rintro r y ⟨rfl,hyw⟩;obtain rfl:w=y:=hyw.symm))
 go_quiet (first | (go_at_call 79;exact Calls.quiet_of (unhide (HLst _))))
 go_upto_region 10 with fail
 refine wp_world (fun x => Below w.heap.size w x) (below_drewN (Below.refl _ _) _) ?_
 clear cq HID HIS HLst hws
 intro x hbx
 have d0:=(hbx.cell (p:=⟨p,0,none⟩) hpl).trans c0
 have HX:=hide hbx
 have hWX:=hide (unhide (HWR x hbx))
 clear hbx c0 c22 HWR
 go_upto_region 13 with (go_at_call 80;refine (unhide hWX).mono ?_;rintro r y ⟨rfl,uv',k1,k2,k3⟩)
 obtain ⟨hs2,hpr,hop,hm,hbl,hsq,hfv⟩:=unhide HFACT
 have hST:=paStep_store ((unhide HH).below (unhide HX)) k1 k2 k3 hpr
 have HST:=hide (hST.behind (unhide HX))
 refine wp_world (fun z => PaStep w z p g a.ticks a.welcome a.fenced (fr ++ [q]) sh st2 c) (unhide HST) ?_
 clear k1 k2 k3 hST HST d0 hWX hs2 hpr hop hm hbl hsq hfv
 rintro z ⟨c1,K1,F1,N1,t1,t2⟩
 obtain ⟨ad1,cap1,hfv1,hcap1,_,hfc1⟩:=K1.ks.fr.shape
 obtain ⟨gf1,of1,rfl,_⟩:=hfc1 (by simp)
 have hm:=(unhide HFACT).2.2.2.1
 have hlen1:(fr ++ [q]).length=m+1:=by simp [hm]
 rw [hlen1] at hfv1 hcap1
 have hmc:m ≤ cap1:=by omega
 have d22:z.cell? ⟨p,22,none⟩=some (.slice (some ⟨gf1,of1,none⟩) (m+1) cap1):=by rw [blk_cell K1.ks.blk,K1.ks.af,hfv1]
 have df:z.frozen? ⟨p,22,none⟩=false:=blk_free (i:=22) K1.ks.blk
 have hpz:=lt_of_block K1.ks.blk
 have hrow:RowO z 3 1 (.slice (some ⟨gf1,of1,none⟩) m cap1) fr.length (numCells fr):=by
  have h:=K1.ks.fr
  rw [hlen1,hfv1] at h
  have h2:=h.init
  rw [← hm]
  have:(numCells (fr ++ [q])).take m=numCells fr:=by rw [hm];simp [numCells]
  rw [this] at h2
  exact h2
 have HSTEP:=fun z2 (hz:Below z.heap.size z z2) => hide (paAfter (F1.trans (far_below (E:=fun _ => False) hz) (fun _ _ h => h.elim)) N1 t1 t2 (paStep_free (free2:=fr) (x:=z2) (v:=.slice (some ⟨gf1,of1,none⟩) m cap1) (K1.below hz) (Far.refl _ _) (by rw [hm];rw [hm] at hrow;exact hrow.far (far_below (E:=fun _ => False) hz) (fun _ _ h => h)) (.inr (.inl (by rw [hfv1];rfl)))))
 clear K1 F1 N1 t1 t2 hfc1 hrow hfv1 hlen1 hm
 refine wp_region_last (by kernel_rfl)
  [fun v _ => v = .pointer (some ⟨p,0,none⟩),fun v _ => v = .pointer (some ⟨p,0,none⟩),fun v _ => v = .pointer (some ⟨p,0,none⟩),fun v _ => v = .pointer (some ⟨p,22,none⟩),fun v _ => v = .slice (some ⟨gf1,of1,none⟩) (m+1) cap1,fun v _ => v = .pointer (some ⟨p,0,none⟩),fun v _ => v = .pointer (some ⟨p,0,none⟩),fun v _ => v = .pointer (some ⟨p,22,none⟩),fun v _ => v = .slice (some ⟨gf1,of1,none⟩) (m+1) cap1,
   fun v _ => v = .int .i64 ((m+1:Nat):Int),fun v _ => v = .int .i64 m,fun v _ => v = .slice (some ⟨gf1,of1,none⟩) m cap1,fun v _ => v = .pointer (some ⟨p,0,none⟩),fun v _ => v = .pointer (some ⟨p,22,none⟩),fun _ _ => True]
  [[(0,none)],[(0,none)],[(61,some 1)],[(62,some 2)],[(63,some 3)],[(0,none)],[(65,some 5)],[(66,some 6)],[(67,some 7)],[(68,some 8)],[(69,some 9)],[(64,some 4),(70,some 10)],[(60,some 0)],[(72,some 12)],[(73,some 13),(71,some 11)]] [some 60,some 61,some 62,some 63,some 64,some 65,some 66,some 67,some 68,some 69,some 70,some 71,some 72,some 73,none] [false,false,false,false,false,false,false,false,false,false,false,false,false,false,false,false,false,false,false,false,false,false,false,false,false,false,false,false,false,false,false,false,false,false,false,false,false,false,false,false,false,false,false,false,false,false,false,false,false,false,false,false,false,false,false,false,false,false,false,false,true,true,true,true,true,true,true,true,true,true,true,true,true,true,false,false,false,false,false,false,false,false,false,false,false,false]
  14 _ rfl rfl (by kernel_rfl) (by kernel_rfl) (by kernel_rfl) (by kernel_rfl) (by kernel_rfl) (by kernel_rfl) ?_ ?_ ?_
 ·repeat' (first | exact stable_eq _ | exact stable_true | exact trivial | apply And.intro)
 ·refine ⟨?_,?_,?_,?_,?_,?_,?_,?_,?_,?_,?_,?_,?_,?_,trivial⟩
  all_goals
   intro a' y hb hf
   have e22:=(hb.cell (p:=⟨p,22,none⟩) hpz).trans d22
   clear hb HSTEP
   simp only [PlanFacts,List.getD_cons_zero,List.getD_cons_succ,Array.getD_eq_getD_getElem?] at hf
   try simp at hf
   go_simp
   try exact ⟨_,rfl,Below.refl _ _,rfl⟩
   try exact Below.refl _ _
   try exact ⟨Below.refl _ _,by simp⟩
 ·intro f y hby hwd
  simp only [AllWords,List.take] at hwd
  have g11:=hwd.2.2.2.2.2.2.2.2.2.2.2.1
  have g13:=hwd.2.2.2.2.2.2.2.2.2.2.2.2.2.1
  clear hwd
  have HSY:=hide (unhide (HSTEP y hby))
  have e22:=(hby.cell (p:=⟨p,22,none⟩) hpz).trans d22
  have ef:y.frozen? ⟨p,22,none⟩=false:=(hby.frozen (p:=⟨p,22,none⟩) hpz).trans df
  clear hby HSTEP d22 df
  simp only [mergeT,g11,g13]
  generalize f 60=x60
  generalize f 61=x61
  generalize f 62=x62
  generalize f 63=x63
  generalize f 64=x64
  generalize f 65=x65
  generalize f 66=x66
  generalize f 67=x67
  generalize f 68=x68
  generalize f 69=x69
  generalize f 70=x70
  generalize f 72=x72
  go_simp
  go_upto_region 14 with fail
  refine wp_world (fun z => PaStep w z p g a.ticks a.welcome a.fenced fr sh st2 c) (unhide HSY) ?_
  clear HSY e22 ef
  rintro z3 ⟨c3,K3,F3,N3,t1,t2⟩
  have hkl:=(unhide HO).small hi
  have hshl:(sh (i * 3)).length < 1000:=by rw [(unhide HO).kp i hi,keptL_length _ _ _ ((unhide HO).pn i hi)];omega
  have hPut:=fun y (hy:Below z3.heap.size z3 y) => putA_any ((K3.below hy).shAt (i:=i * 3) (by omega)) hshl sq s q
  simp only [recA,show 4+i * 3 * 2=4+i * 6 by omega] at hPut
  have HPUT:=fun y hy => hide (hPut y hy)
  have HK3:=hide (And.intro K3 (And.intro F3 (And.intro N3 (And.intro t1 t2))))
  clear K3 F3 N3 t1 t2 hPut hkl hshl
  refine wp_region_last (by kernel_rfl)
   [fun v _ => v = .pointer (some ⟨p,0,none⟩),fun v _ => v = .int .i64 i,fun v _ => v = .pointer (some ⟨p,0,none⟩),fun v _ => v = .pointer (some ⟨p,4,none⟩),fun v _ => v = .pointer (some ⟨p,4+i * 6,none⟩),fun v _ => v = .pointer (some ⟨p,4+i * 6,none⟩),fun v _ => v = .int .i64 sq,fun v _ => v = .string s,fun v _ => v = .string s,fun v _ => v = .int .i64 q,fun v _ => v = .agg #[.string s,.int .i64 q],fun _ _ => True]
   [[(0,none)],[(1,none)],[(74,some 0)],[(76,some 2)],[(77,some 3),(75,some 1)],[(78,some 4)],[(7,none)],[(2,none)],[(81,some 7)],[(8,none)],[(82,some 8),(83,some 9)],[(79,some 5),(80,some 6),(84,some 10)]] [some 74,some 75,some 76,some 77,some 78,some 79,some 80,some 81,some 82,some 83,some 84,some 85] [false,false,false,false,false,false,false,false,false,false,false,false,false,false,false,false,false,false,false,false,false,false,false,false,false,false,false,false,false,false,false,false,false,false,false,false,false,false,false,false,false,false,false,false,false,false,false,false,false,false,false,false,false,false,false,false,false,false,false,false,false,false,false,false,false,false,false,false,false,false,false,false,false,false,true,true,true,true,true,true,true,true,true,true,true,true]
   11 _ rfl rfl (by kernel_rfl) (by kernel_rfl) (by kernel_rfl) (by kernel_rfl) (by kernel_rfl) (by kernel_rfl) ?_ ?_ ?_
  ·repeat' (first | exact stable_eq _ | exact stable_true | exact trivial | apply And.intro)
  ·refine ⟨?_,?_,?_,?_,?_,?_,?_,?_,?_,?_,?_,trivial⟩
   all_goals
    intro a' y hb hf
    clear hb HPUT
    simp only [PlanFacts,List.getD_cons_zero,List.getD_cons_succ,Array.getD_eq_getD_getElem?] at hf
    try simp at hf
    go_simp
    try exact ⟨_,rfl,Below.refl _ _,rfl⟩
    try exact Below.refl _ _
    try exact ⟨Below.refl _ _,by simp⟩
   all_goals first
    | (refine (unhide (hSC _)).mono ?_;rintro r z ⟨rfl,hb⟩;exact ⟨rfl,hb⟩)
    | (refine (unhide (hSC _)).mono ?_;rintro r z ⟨rfl,hb⟩;exact ⟨_,rfl,hb,rfl⟩)
    | skip
  ·intro f2 y hby hwd
   simp only [AllWords,List.take] at hwd
   have g5:=hwd.2.2.2.2.2.1
   have g6:=hwd.2.2.2.2.2.2.1
   have g10:=hwd.2.2.2.2.2.2.2.2.2.2.1
   clear hwd
   have HP:=hide (unhide (HPUT y hby))
   have HBY:=hide hby
   clear hby HPUT
   simp only [mergeT,g5,g6,g10]
   generalize f2 74=y74
   generalize f2 75=y75
   generalize f2 76=y76
   generalize f2 77=y77
   generalize f2 78=y78
   generalize f2 81=y81
   generalize f2 82=y82
   generalize f2 83=y83
   go_simp
   refine (unhide HP).mono ?_
   rintro r u ⟨rfl,hst⟩
   have HST:=hide hst
   clear hst
   go_wp2
   go_ret
   refine ⟨rfl,?_⟩
   obtain ⟨hs2,hpr,hop,hm,hbl,hsq,hfv⟩:=unhide HFACT
   obtain ⟨K3,F3,N3,t1,t2⟩:=unhide HK3
   have hst:=unhide HST
   have hst3:ShStep y u p (4+i * 3 * 2) 116 c3.arr (c3.nv (i * 3)) (c3.mv (i * 3)) (putL (sh (i * 3)) sq (recA s q)):=by rw [show 4+i * 3 * 2=4+i * 6 by omega];exact hst
   have h1:=paAfter F3 N3 t1 t2 ((paStep_sh (K3.below (unhide HBY)) (by omega) hst3).behind (unhide HBY))
   have hON:=onAg_submit (unhide HO) hi s
   rw [← hbl,← hsq,← hop] at hON
   exact ⟨g,fr,_,_,st2,h1,hs2,hON⟩
end
end Go.Proofs.YtamafdcnbcoegabGreat
namespace Go.Proofs.YtamafdcnbcoegabGreat
open Go.RowKit
section
variable {w x y:World} {p:Nat} {g g2:Nat→Nat} {tk tk2:Nat} {wel wel2 fen fen2:Bool} {free free2:List Nat} {sh sh2:Nat→List (Nat × Value)} {arr:Array Value} {s:Nat} {nv mv:Nat→Value} {fv rv:Value}
theorem ka_sh (H:KaAt w p g tk wel fen free sh arr s nv mv fv rv) {i:Nat} (hi:i < 9) {l':List (Nat × Value)} (h:ShStep w x p (4+i * 2) 116 arr (nv i) (mv i) l') :
  ∃ arr' nv' mv',KaAt x p g tk wel fen free (fun t => if t=i then l' else sh t) arr' s nv' mv' fv rv∧(∀ k,KaU p nv' mv' fv k→KaU p nv mv fv k ∨ w.heap.size ≤ k)∧Far (fun k => k=p ∨ ShU (nv i) (mv i) k) w x:=by
 obtain ⟨⟨nv',mv',S,hn,hm⟩,hF⟩:=h
 have hsz:=H.sz
 have hget:∀ j,j ≠ 4+i * 2→j ≠ 4+i * 2+1→((arr.setIfInBounds (4+i * 2) nv').setIfInBounds (4+i * 2+1) mv')[j]? = arr[j]?:=fun j h1 h2 => by
  rw [Array.getElem?_setIfInBounds_ne (by omega),Array.getElem?_setIfInBounds_ne (by omega)]
 have hnew:∀ k,ShU nv' mv' k→ShU (nv i) (mv i) k ∨ w.heap.size ≤ k:=by
  rintro k (hk | hk)
  ·rcases hn with h | h | ⟨g,h,hg⟩
   ·rw [h] at hk;cases hk
   ·exact .inl (.inl (by rw [← h];exact hk))
   ·rw [h] at hk;cases hk;exact .inr hg
  ·rcases hm with h | ⟨g,h,hg⟩
   ·exact .inl (.inr (by rw [← h];exact hk))
   ·rw [h] at hk;cases hk;exact .inr hg
 have hfvp:fv.ownBlock ≠ some p:=H.fr.ne H.blk (by decide)
 refine ⟨(arr.setIfInBounds (4+i * 2) nv').setIfInBounds (4+i * 2+1) mv',fun t => if t=i then nv' else nv t,fun t => if t=i then mv' else mv t,
  ⟨S.blk,by simpa using hsz,?_,?_,?_,?_,?_,?_,?_,?_,?_,?_,?_,?_,?_⟩,?_,hF⟩
 ·rw [hget _ (by omega) (by omega)];exact H.a0
 ·intro j hj;rw [hget _ (by omega) (by omega)];exact H.ag j hj
 ·intro j hj
  show _=some (if j=i then nv' else nv j)
  by_cases e:j=i
  ·subst e;rw [if_pos rfl];exact S.c0
  ·rw [if_neg e,hget _ (by omega) (by omega)];exact H.an j hj
 ·intro j hj
  show _=some (if j=i then mv' else mv j)
  by_cases e:j=i
  ·subst e;rw [if_pos rfl];exact S.c1
  ·rw [if_neg e,hget _ (by omega) (by omega)];exact H.am j hj
 ·rw [hget _ (by omega) (by omega)];exact H.af
 ·rw [hget _ (by omega) (by omega)];exact H.at'
 ·rw [hget _ (by omega) (by omega)];exact H.aw
 ·rw [hget _ (by omega) (by omega)];exact H.ae
 ·rw [hget _ (by omega) (by omega)];exact H.ar
 ·exact H.fr.far hF (fun g hg h => h.elim (fun h => hfvp (by rw [hg,h])) (fun h => H.apf i hi g h hg))
 ·intro j hj
  show ShelfIs x (if j=i then nv' else nv j) (if j=i then mv' else mv j) (if j=i then l' else sh j)
  by_cases e:j=i
  ·rw [if_pos e,if_pos e,if_pos e];exact S.sh
  ·rw [if_neg e,if_neg e,if_neg e]
   refine (H.shs j hj).far hF (fun k hk h => ?_)
   rcases h with h | h
   ·exact (H.shs j hj).ne H.blk (by decide) (by rw [← h];exact hk)
   ·exact H.aps j i hj hi e k hk h
 ·intro j hj b hb
  replace hb:ShU (if j=i then nv' else nv j) (if j=i then mv' else mv j) b:=hb
  by_cases e:j=i
  ·rw [if_pos e,if_pos e] at hb
   rcases hnew b hb with h | h
   ·exact H.apf i hi b h
   ·intro hf
    have:=H.fr.lt b hf
    omega
  ·rw [if_neg e,if_neg e] at hb
   exact H.apf j hj b hb
 ·intro j j2 hj hj2 hne k hk
  replace hk:ShU (if j=i then nv' else nv j) (if j=i then mv' else mv j) k:=hk
  show ¬ ShU (if j2=i then nv' else nv j2) (if j2=i then mv' else mv j2) k
  by_cases h1:j=i
  ·subst h1
   rw [if_pos rfl,if_pos rfl] at hk
   rw [if_neg (fun e => hne e.symm),if_neg (fun e => hne e.symm)]
   intro hk2
   rcases hnew k hk with h | h
   ·exact H.aps j j2 hj hj2 hne k h hk2
   ·have:=(H.shs j2 hj2).lt k hk2;omega
  ·rw [if_neg h1,if_neg h1] at hk
   by_cases h2:j2=i
   ·subst h2
    rw [if_pos rfl,if_pos rfl]
    intro hk2
    rcases hnew k hk2 with h | h
    ·exact H.aps j j2 hj hj2 hne k hk h
    ·have:=(H.shs j hj).lt k hk;omega
   ·rw [if_neg h2,if_neg h2]
    exact H.aps j j2 hj hj2 hne k hk
 ·rintro k (rfl | hk | ⟨j,hj,hk⟩)
  ·exact .inl (.inl rfl)
  ·exact .inl (.inr (.inl hk))
  ·have hk:ShU (if j=i then nv' else nv j) (if j=i then mv' else mv j) k:=hk
   by_cases e:j=i
   ·rw [if_pos e,if_pos e] at hk
    exact (hnew k hk).elim (fun h => .inl (.inr (.inr ⟨i,hi,h⟩))) .inr
   ·rw [if_neg e,if_neg e] at hk
    exact .inl (.inr (.inr ⟨j,hj,hk⟩))
theorem ka_free (H:KaAt w p g tk wel fen free sh arr s nv mv fv rv) (v:Value) (hF:Far (fun k => fv.ownBlock=some k) w x) (hv:RowO x 3 1 v free2.length (numCells free2)) (hl:Loc w fv v) :
  ∃ arr',KaAt (x.setCell ⟨p,22,none⟩ v) p g tk wel fen free2 sh arr' s nv mv v rv∧(∀ k,KaU p nv mv v k→KaU p nv mv fv k ∨ w.heap.size ≤ k)∧Far (fun k => k=p ∨ fv.ownBlock=some k) w (x.setCell ⟨p,22,none⟩ v):=by
 have hs:=far_set x p 22 v
 have hget:∀ j,j ≠ 22→(arr.setIfInBounds 22 v)[j]? = arr[j]?:=fun j hj => Array.getElem?_setIfInBounds_ne (fun e => hj e.symm)
 have h22:22 < arr.size:=by rw [H.sz];omega
 have hfvp:fv.ownBlock ≠ some p:=H.fr.ne H.blk (by decide)
 have hbx:=hF.blk H.blk hfvp
 have hvp:v.ownBlock ≠ some p:=hv.ne hbx (by decide)
 have hF2:Far (fun k => k=p ∨ fv.ownBlock=some k) w (x.setCell ⟨p,22,none⟩ v):=(hF.mono (fun _ _ h => .inr h)).trans hs (fun _ _ h => .inl h)
 refine ⟨arr.setIfInBounds 22 v,⟨blk_set hbx,by simpa using H.sz,?_,?_,?_,?_,?_,?_,?_,?_,?_,?_,?_,?_,H.aps⟩,?_,hF2⟩
 ·rw [hget _ (by omega)];exact H.a0
 ·intro j hj;rw [hget _ (by omega)];exact H.ag j hj
 ·intro j hj;rw [hget _ (by omega)];exact H.an j hj
 ·intro j hj;rw [hget _ (by omega)];exact H.am j hj
 ·simp [h22]
 ·rw [hget _ (by omega)];exact H.at'
 ·rw [hget _ (by omega)];exact H.aw
 ·rw [hget _ (by omega)];exact H.ae
 ·rw [hget _ (by omega)];exact H.ar
 ·exact hv.far hs (fun g hg e => hvp (by rw [hg,e]))
 ·intro j hj
  refine (H.shs j hj).far hF2 (fun k hk e => ?_)
  rcases e with rfl | e
  ·exact (H.shs j hj).ne H.blk (by decide) hk
  ·exact H.apf j hj k hk e
 ·intro j hj b hb hvb
  rcases hl with h | h | ⟨g',h,hg'⟩
  ·rw [h] at hvb;cases hvb
  ·rw [h] at hvb;exact H.apf j hj b hb hvb
  ·rw [h] at hvb;cases hvb
   have:=(H.shs j hj).lt b hb
   omega
 ·rintro k (rfl | hk | hk)
  ·exact .inl (.inl rfl)
  ·rcases hl with h | h | ⟨g',h,hg'⟩
   ·rw [h] at hk;cases hk
   ·exact .inl (.inr (.inl (by rw [← h];exact hk)))
   ·rw [h] at hk;cases hk;exact .inr hg'
  ·exact .inl (.inr (.inr hk))
end
def toV (e:Mod.Pe):Nat × Value:=(e.1,recA e.2.1 e.2.2)
theorem keptL_toV:∀ (b:Nat) (k:List (ByteArray × Nat)) (p:List Nat),keptL b k p=(Mod.keptP b k p).map toV
 | _,[],_ => by simp [keptL,Mod.keptP]
 | _,_ :: _,[] => by simp [keptL,Mod.keptP]
 | b,x :: r,q :: qs => by
  rw [keptL_cons,Mod.keptP,List.map_cons,keptL_toV (b+1) r qs]
  rfl
theorem putL_toV (e:Mod.Pe):∀ l:List Mod.Pe,putL (l.map toV) e.1 (recA e.2.1 e.2.2)=(Mod.insP l e).map toV
 | [] => rfl
 | y :: r => by
  rw [List.map_cons,putL,Mod.insP]
  have h1:(toV y).1=y.1:=rfl
  rw [h1]
  rcases Nat.lt_trichotomy e.1 y.1 with c | c | c
  ·have c1:¬ e.1=y.1:=by omega
   simp [c,c1,toV]
  ·have c2:¬ e.1 < y.1:=by omega
   simp [c,toV]
  ·have c1:¬ e.1=y.1:=by omega
   have c2:¬ e.1 < y.1:=by omega
   simp [c1,c2,putL_toV e r]
theorem keys_toV (l:List Mod.Pe):(l.map toV).map (·.1)=l.map (·.1):=by
 rw [List.map_map];rfl
theorem areA_toV (l:List Mod.Pe):AreA (l.map toV):=fun x hx => by
 obtain ⟨e,_,rfl⟩:=List.mem_map.1 hx
 exact ⟨e.2.1,e.2.2,rfl⟩
def shOf (l:Mod.Ld) (k:Nat):List (Nat × Value):=if k % 3=0 then (l.sh (k / 3)).map toV else []
theorem shOf_kept (l:Mod.Ld) (i:Nat):shOf l (i * 3)=(l.sh i).map toV:=by
 unfold shOf
 rw [if_pos (by omega),show i * 3 / 3=i by omega]
theorem shOf_put (l:Mod.Ld) (i:Nat) (l':List Mod.Pe):(fun t => if t=i * 3 then l'.map toV else shOf l t)=shOf { l with sh:=fun j => if j=i then l' else l.sh j }:=by
 funext t
 unfold shOf
 by_cases h:t=i * 3
 ·subst h
  rw [if_pos rfl,if_pos (by omega),show i * 3 / 3=i by omega]
  simp
 ·rw [if_neg h]
  by_cases h2:t % 3=0
  ·rw [if_pos h2,if_pos h2]
   have:¬ t / 3=i:=by omega
   simp [this]
  ·rw [if_neg h2,if_neg h2]
end Go.Proofs.YtamafdcnbcoegabGreat
namespace Go.Proofs.YtamafdcnbcoegabGreat
open Go.RowKit
namespace Mod
theorem insP_length (e:Pe):∀ l:List Pe,(insP l e).length ≤ l.length+1
 | [] => by simp [insP]
 | y :: r => by
  have:=insP_length e r
  unfold insP
  split
  ·simp
  ·split
   ·simp
   ·simp;omega
theorem ldAll_app (g:Nat→Nat):∀ (rs qs:List Rc) (x:Nat) (l:Ld),ldAll g (rs ++ qs) x l=match ldAll g rs x l with
  | none => none
  | some l' => ldAll g qs (x+rs.length) l'
 | [],qs,x,l => by simp [ldAll]
 | r :: rs,qs,x,l => by
  rw [List.cons_append,ldAll,ldAll,List.length_cons,show x+(rs.length+1)=x+1+rs.length by omega]
  cases ldStep g x r l with
  | none => rfl
  | some l' => exact ldAll_app g rs qs (x+1) l'
theorem ldAll_step {g:Nat→Nat} {rs:List Rc} {j:Nat} {r:Rc} {l:Ld} (hr:rs[j]? = some r) (h:ldAll g (rs.take j) 0 ld0=some l):ldAll g (rs.take (j+1)) 0 ld0=ldStep g j r l:=by
 obtain ⟨hj,e⟩:=List.getElem?_eq_some_iff.1 hr
 rw [List.take_succ_eq_append_getElem hj,e,ldAll_app,h]
 simp only [List.length_take]
 rw [show 0+min j rs.length=j by omega]
 unfold ldAll
 cases ldStep g j r l with
 | none => rfl
 | some l' => rfl
theorem ldAll_bad {g:Nat→Nat} {rs:List Rc} {j:Nat} (h:ldAll g (rs.take j) 0 ld0=none):ldAll g rs 0 ld0=none:=by
 have:=ldAll_app g (rs.take j) (rs.drop j) 0 ld0
 rw [List.take_append_drop,h] at this
 exact this
theorem ldStep_len {g:Nat→Nat} {x:Nat} {r:Rc} {l l':Ld} (h:ldStep g x r l=some l'):l'.free.length ≤ l.free.length+1∧∀ i,(l'.sh i).length ≤ (l.sh i).length+1:=by
 unfold ldStep at h
 split at h
 ·cases h
  exact ⟨by simp,fun i => Nat.le_succ _⟩
 ·split at h
  ·cases h
  ·cases h
   refine ⟨by simp,fun i => ?_⟩
   simp only
   split
   ·rename_i e
    have:=insP_length (r.q,r.b,x) (l.sh r.s)
    rw [e]
    exact this
   ·omega
theorem ldAll_len {g:Nat→Nat}:∀ (rs:List Rc) (x:Nat) (l l':Ld),ldAll g rs x l=some l' → l'.free.length ≤ l.free.length+rs.length∧∀ i,(l'.sh i).length ≤ (l.sh i).length+rs.length
 | [],_,l,l',h => by cases h;exact ⟨by simp,fun i => by simp⟩
 | r :: rs,x,l,l',h => by
  unfold ldAll at h
  cases hs:ldStep g x r l with
  | none => rw [hs] at h;cases h
  | some l1 =>
   rw [hs] at h
   obtain ⟨a1,a2⟩:=ldStep_len hs
   obtain ⟨b1,b2⟩:=ldAll_len rs (x+1) l1 l' h
   refine ⟨by simp;omega,fun i => ?_⟩
   have:=a2 i
   have:=b2 i
   simp
   omega
theorem insP_mem {e y:Pe}:∀ {l:List Pe},y ∈ insP l e→y=e ∨ y ∈ l
 | [],h => by simp [insP] at h;exact .inl h
 | z :: r,h => by
  unfold insP at h
  split at h
  ·cases h with
   | head => exact .inl rfl
   | tail _ h => exact .inr (.tail _ h)
  ·split at h
   ·cases h with
    | head => exact .inl rfl
    | tail _ h => exact .inr h
   ·cases h with
    | head => exact .inr (.head _)
    | tail _ h => exact (insP_mem h).imp id (fun h => .tail _ h)
theorem ldAll_inv {g:Nat→Nat} (R:Nat→Pe→Prop):∀ (rs:List Rc) (x:Nat) (l l':Ld),ldAll g rs x l=some l' → (∀ i,∀ e ∈ l.sh i,R i e)→(∀ j r,rs[j]? = some r→¬ r.q ≤ g r.s→R r.s (r.q,r.b,x+j))→∀ i,∀ e ∈ l'.sh i,R i e
 | [],_,l,l',h,h1,_ => by cases h;exact h1
 | r :: rs,x,l,l',h,h1,h2 => by
  unfold ldAll at h
  cases hs:ldStep g x r l with
  | none => rw [hs] at h;cases h
  | some l1 =>
   rw [hs] at h
   refine ldAll_inv R rs (x+1) l1 l' h ?_ (fun j r' hj hq => by
    have:=h2 (j+1) r' (by simpa using hj) hq
    rw [show x+1+j=x+(j+1) by omega]
    exact this)
   unfold ldStep at hs
   split at hs
   ·cases hs;exact h1
   ·rename_i hq
    split at hs
    ·cases hs
    ·cases hs
     intro i e he
     simp only at he
     split at he
     ·rename_i hi
      subst hi
      rcases insP_mem he with rfl | he
      ·exact h2 0 r rfl hq
      ·exact h1 _ e he
     ·exact h1 i e he
def ldRes (g:Nat→Nat) (rs:List Rc):Option Ld:=match ldAll g rs 0 ld0 with
 | none => none
 | some l => if okP (l.sh 0) (g 0)=true∧okP (l.sh 1) (g 1)=true∧okP (l.sh 2) (g 2)=true then some l else none
end Mod
def AgLd (w x:World) (p s:Nat) (g:Nat→Nat) (l:Mod.Ld):Prop :=
 ∃ arr nv mv fv,KaAt x p g 0 false false l.free (shOf l) arr s nv mv fv (.slice none 0 0)∧Far (fun k => k=p) w x∧∀ k,KaU p nv mv fv k→k=p ∨ w.heap.size ≤ k
theorem AgLd.below {w x y:World} {p s:Nat} {g:Nat→Nat} {l:Mod.Ld} (h:AgLd w x p s g l) (hb:Below x.heap.size x y):AgLd w y p s g l:=by
 obtain ⟨arr,nv,mv,fv,h1,h2,h3⟩:=h
 exact ⟨arr,nv,mv,fv,h1.far (far_below (E:=fun _ => False) hb) (fun _ _ h => h),h2.trans (far_below (E:=fun _ => False) hb) (fun _ _ h => h.elim),h3⟩
set_option maxHeartbeats 1000000 in
theorem kaLast_any {w:World} {p s:Nat} {g:Nat→Nat} {l:Mod.Ld} {arr:Array Value} {nv mv:Nat→Value} {fv rv:Value} (K:KaAt w p g 0 false false l.free (shOf l) arr s nv mv fv rv) {i:Nat} (hi:i < 3) :
  Calls Tryz.prog 79 #[ptrTo p,.int .i64 i] w fun r w' => r = .returned (.int .i64 (Mod.lastP (l.sh i) (g i):Nat))∧∃ n,w' = w.drewN n:=by
 have hL:=lastA_any K.blk (K.an (i * 3) (by omega)) (K.shs (i * 3) (by omega))
 rw [shOf_kept,show 4+i * 3 * 2=4+i * 6 by omega] at hL
 obtain ⟨m,fb,hm,hL⟩:∃ (m:Nat) (fb:Bool),max m (g i)=Mod.lastP (l.sh i) (g i)∧Calls Tryz.prog 122 #[.pointer (some ⟨p,4+i * 6,none⟩)] w fun e w' => e = .returned (.tuple #[.int .i64 m,.bool fb])∧∃ n,w' = w.drewN n:=by
  unfold Mod.lastP
  rw [List.getLast?_map] at hL
  cases hq:(l.sh i).getLast? with
  | none => rw [hq] at hL;exact ⟨0,false,rfl,hL⟩
  | some x => rw [hq] at hL;exact ⟨x.1,true,rfl,hL⟩
 have cg:w.cell? ⟨p,1+i,none⟩=some (.int .i64 (g i)):=by rw [blk_cell K.blk,K.ag i hi]
 obtain ⟨n,hn⟩:∃ n,n=Mod.lastP (l.sh i) (g i):=⟨_,rfl⟩
 rw [← hn] at hm ⊢
 obtain ⟨b,hb⟩:∃ b,b=g i:=⟨_,rfl⟩
 rw [← hb] at hm cg
 have hmI:max (m:Int) (b:Int)=(n:Int):=by omega
 have HL:=hide hL
 have hi0:(0:Int) ≤ (i:Int):=by omega
 have hi3:(i:Int) < 3:=by omega
 clear K hL hn hb hm
 unfold ptrTo
 go_enter Tryz.func79,Tryz.ntmps79
 go_wp2_with (go_at_call 122;refine (unhide HL).mono ?_;rintro r y ⟨rfl,q,rfl⟩)
 go_ret
 exact ⟨by first | rfl | simp [hmI],q,rfl⟩
end Go.Proofs.YtamafdcnbcoegabGreat
