/-
  Part 10 of a proof: S9I, L1, L2, L3, L4, L5, L6, K21, K22.
-/
import Derived.Test.YtamafdcnbcoegabGreatAn9
namespace Go.Proofs.YtamafdcnbcoegabGreat
open Go.RowKit
theorem infoRI:(Tryz.prog.info? 3).map (fun i => (i.zero,i.size,i.bytes))=some (some (.int .i64 0),1,8):=by kernel_rfl
set_option maxRecDepth 100000 in
set_option maxHeartbeats 2000000 in
theorem takeUpToI_any {w:World} {p o:Nat} {t:TypeId} {arr:Array Value} {nv mv:Value} {l:List (Nat × Value)} (S:ShAt w p o t arr nv mv l) (A:AreI l) (n:Nat) :
  Calls Tryz.prog 167 #[.pointer (some ⟨p,o,none⟩),.int .i64 n] w fun e w' => ∃ v,e = .returned v ∧
   w'.ownsRow w.heap.size 3 1 v (cutAt l n) (flat (l.take (cutAt l n)))∧ShTook w w' p o t arr nv mv (l.drop (cutAt l n)):=by
 obtain ⟨hbW,h0,h1,S,ht⟩:=S
 have h0s:o < arr.size:=(Array.getElem?_eq_some_iff.1 h0).1
 have h1s:o+1 < arr.size:=(Array.getElem?_eq_some_iff.1 h1).1
 have c0:w.cell? ⟨p,o,none⟩=some nv:=(blk_cell hbW).trans h0
 have hlen:=S.len
 have hsr:=search_any S.nums S.sorted (by simp;omega) n
 have hcut:=cut_eq (n:=n) S.sorted
 have hcl:=cut_le l n
 have hk0:(l.map (·.1)).countP (· < n) ≤ l.length:=by have:=List.countP_le_length (p:=(· < n)) (l:=l.map (·.1));simpa using this
 obtain ⟨i0,hi,hz0,hz1,hz2⟩:=info_parts2 infoRI
 generalize cutAt l n=ce at *
 generalize (l.map (·.1)).countP (· < n)=k0 at *
 generalize (l.map (·.1)).contains n=c at *
 have hkl:(l.map (·.1)).length=l.length:=List.length_map _
 have SS:=hide S
 have HL:=hide hkl
 replace hsr:=hide hsr
 rcases S.nums.cases with ⟨hnv,hlz⟩ | ⟨g,cap,cur,hnv,hh,hn,hc,hz,htk⟩
 ·subst hnv
  obtain rfl:l = []:=by simpa using hlz
  obtain rfl:ce=0:=by simpa using hcl
  obtain rfl:k0=0:=by simpa using hk0
  have hc:c=false:=by cases c <;> simp_all
  subst hc
  have hde:=fun y:World => delete_any (numsAt_nil y) 0 0 (by omega) (by simp)
  simp only [show ((0:Nat):Int)=0 from rfl,List.take_nil,List.drop_nil,List.nil_append] at hde
  have HDE:=fun y => hide (hde y)
  clear S hkl hde hcut hk0 hcl hlz
  simp only [show ((0:Nat):Int)=0 from rfl] at hsr
  go_enter Tryz.func167,Tryz.ntmps167
  go_upto_region 5 with (go_at_call 125;refine (unhide hsr).mono ?_;rintro e y ⟨rfl,q,rfl⟩)
  go_wp2
  go_loopw [5,9,29] (fun v5 _ i wr => v5 = .slice none 0 0∧i = .int .i64 0∧wr=w.drewN q) (fun _ _ i _ => 0)
  case atStart => exact ⟨rfl,rfl,rfl⟩
  case round =>
   obtain ⟨rfl,rfl,rfl⟩:=hrel
   go_upto_region 12 with fail
   refine (unhide (HDE _)).mono ?_
   rintro e z ⟨nv',rfl,N',hF',hown⟩
   obtain rfl:nv' = .slice none 0 0:=by
    rcases N'.cases with ⟨h,_⟩ | ⟨g',cap',cur',rfl,_⟩
    ·exact h
    ·cases hown
   have hfz:Far (fun _ => False) w z:=(far_drewN (fun _ => False) w q).trans (hF'.mono (fun _ _ h => by cases h)) (fun _ _ h => h)
   have hbz:=hfz.blk hbW id
   have cz:=(blk_cell hbz).trans h0
   have fz:z.frozen? ⟨p,o,none⟩=false:=by simp [World.frozen?,hbz]
   replace N':=hide N'
   replace hfz:=hide hfz
   clear hF' hown
   go_wp2
   go_ret
   have S0:=unhide SS
   have hE:z.setCell ⟨p,o,none⟩ (.slice none 0 0)=z.setCell ⟨p,o,none⟩ (.slice none 0 0):=rfl
   refine ⟨_,rfl,World.ownsRow_nil _ _ _ _,⟨_,⟨blk_set hbz,by simp [h0s],by rw [Array.getElem?_setIfInBounds_ne (by omega)];exact h1,⟨numsAt_nil _,(S0.far (unhide hfz) (fun _ _ h => h)).map.keep (fun b hb' => blk_set_ne (fun e => ?_)),by simp,by simp⟩,ht⟩,rfl⟩,((unhide hfz).mono (fun _ _ h => h.elim)).trans (far_set z p o _) (fun _ _ h => .inl h)⟩
   exact S0.ne hbW ht (.inr (by rw [hb',e]))
 ·rw [hkl] at hnv hn
  subst hnv
  have N0:=hide S.nums
  cases c
  all_goals
   simp only [if_true,if_false,Bool.false_eq_true,Nat.add_zero] at hcut
   clear S htk hkl
   try (rw [hcut] at hsr)
   have hcI:((k0:Int)+1=(ce:Int))=((k0:Int)+1=(ce:Int)):=rfl
   try (have hcI:(k0:Int)+1=ce:=by omega)
   replace hcut:=hide hcut
   go_enter Tryz.func167,Tryz.ntmps167
   go_upto_region 5 with (go_at_call 125;refine (unhide hsr).mono ?_;rintro e y ⟨rfl,q,rfl⟩)
  all_goals
   go_wp2
   go_loopw [5,9,29] (fun v5 _ i wr => ∃ k:Nat,k ≤ ce∧i = .int .i64 k∧wr.ownsRow w.heap.size 3 1 v5 k (flat (l.take k))∧wr.heap[p]? = some (.cells arr t (0,0))∧NumsAt wr (.slice (some ⟨g,0,none⟩) l.length cap) (l.map (·.1))∧MapV wr mv (look (l.drop k))∧Far (fun b => mapBlock mv=some b) w wr) (fun _ _ i _ => l.length - (intOf i).toNat)
   case atStart => exact ⟨0,by omega,rfl,World.ownsRow_nil _ _ _ _,hbW,(unhide SS).nums,by rw [List.drop_zero];exact (unhide SS).map,far_drewN _ w q⟩
   case round =>
    obtain ⟨k,hk,rfl,ho,hb,N,M,hf⟩:=hrel
    by_cases hlt:k < ce
    ·have hkl:k < l.length:=by omega
     obtain ⟨m,hx⟩:=A l[k] (List.getElem_mem hkl)
     have hdr:l.drop k=l[k] :: l.drop (k+1):=List.drop_eq_getElem_cons hkl
     have hlk:look (l.drop k) (l[k].1:Int)=some l[k].2:=by rw [hdr,look_cons,if_pos rfl]
     have hsorted:=(unhide SS).sorted
     have hgt:∀ y ∈ l.drop (k+1),l[k].1 < y.1:=fun y hy => by
      have h1:((l.drop k).map (·.1)).Pairwise (· < ·):=by rw [List.map_drop];exact hsorted.drop
      rw [hdr,List.map_cons,List.pairwise_cons] at h1
      exact h1.1 y.1 (List.mem_map.2 ⟨y,hy,rfl⟩)
     have hdel:=del_look hgt
     rw [← hdr] at hdel
     have htake:flat (l.take (k+1))=flat (l.take k) ++ vcells l[k].2:=by rw [← flat_snoc,List.take_add_one,List.getElem?_eq_getElem hkl];rfl
     have c0:=(blk_cell hb).trans h0
     have c1:=(blk_cell hb).trans h1
     have cn:wr.cell? ⟨g,k,none⟩=some (.int .i64 (l[k].1:Int)):=by
      rw [N.cell' (by simpa using hkl)]
      simp [List.getD_eq_getElem?_getD,hkl]
     rcases M with ⟨rfl,hM⟩ | ⟨mb,rfl,hM⟩
     ·rw [hM] at hlk;cases hlk
     have hrun:=(run_lookup_i (P:=Tryz.prog) (w:=wr) (t:=105) Tryz.underlying105 Tryz.underlying3 (zero_I wr) (.inr ⟨mb,rfl,hM⟩) (l[k].1:Int)).2
     rw [hlk,hx] at hrun
     rw [hx] at htake
     simp only [Option.getD_some,recI] at hrun
     have HT:=hide htake
     have HD:=hide hdel
     have HO:=hide ho
     have HN:=hide N
     have HM:=hide hM
     have HF:=hide hf
     have HX:=hide hx
     clear ho N hM hf htake hdel hlk hx hdr hgt hsorted
     generalize hxn:l[k].1=xn at *
     replace hxn:=hide hxn
     have hsz:=(unhide HF).size
     have hmb:mb < w.heap.size:=(unhide SS).map.lt mb rfl
     have hpw:=lt_of_block hbW
     have hk5:=fun g' (hg':u5.ownBlock=some g') => World.ownsRow.lt (unhide HO) g' hg'
     go_upto_region 9 with (at_builtin;refine wpList_append_own _ rfl (.tmp 33) (.tmp 40) 101 rfl w.heap.size 3 i0 (.int .i64 0) 1 8 Tryz.underlying101 hi hz0 hz1 hz2 rfl (by decide) u5 k (flat (l.take k)) rfl ((unhide HO).alloc _) ⟨wr.heap.size,0,none⟩ 1 1 (vcells (recI m)) rfl rfl cells_new (by intro u hu;simp [vcells,recI] at hu;first | (rcases hu with rfl | rfl <;> rfl) | (subst hu;rfl)) (by unfold maxLen;omega) (by omega) (by simp;omega) ?_;intro v' w1 hown' hgrow _;have hb1:Below w.heap.size wr w1:=((Below.refl _ wr).alloc hsz _).trans (below_grown_new (B:=w.heap.size) hgrow (by simp;omega) (fun g' hg' => (hk5 g' hg').1));obtain ⟨ob,hU,hM1⟩:=run_delete_i (P:=Tryz.prog) (w:=w1) (t:=105) (K':=3) Tryz.underlying105 Tryz.underlying3 ((unhide HM).keep (hb1.block mb hmb)) xn;have hU2:=fun ty => hU ty w1 rfl;have hp1:=(hb1.block p hpw).trans hb;have c1':=(blk_cell hp1).trans h1;replace hown':=hide hown';replace hM1:=hide hM1;replace hb1:=hide hb1;clear hgrow hU)
     go_wp2
     have hpm:p ≠ mb:=fun e => (unhide HM).not_cells (by rw [← e];exact hb)
     have hnm:=(unhide HN).notMap (unhide HM)
     have hg:=(World.ownsRow.lt (unhide HN) g rfl).2
     have hgw:g < w.heap.size:=lt_of_block hh
     have hW:=far_block (w:=w1) mb ob
     have hN1:=(unhide HN).keep (w':={ w1 with heap:=w1.heap.setIfInBounds mb ob }) (fun g' hg' => by
      cases hg'
      exact (hW.rest g (Nat.lt_of_lt_of_le hgw (Nat.le_trans hsz (unhide hb1).size)) (fun e => hnm (by rw [e];rfl))).trans ((unhide hb1).block g hgw))
     have ho1:=ownsRow_keep2 (w':={ w1 with heap:=w1.heap.setIfInBounds mb ob }) (unhide hown') (fun g' hg' => hW.rest g' (World.ownsRow.lt (unhide hown') g' hg').2 (fun e => by have:=(World.ownsRow.lt (unhide hown') g' hg').1;omega))
     refine ⟨⟨k+1,by omega,by go_num,by rw [unhide HT];exact ho1,(hW.rest p (lt_of_block hp1) hpm).trans hp1,hN1,.inr ⟨mb,rfl,by rw [← unhide HD];exact unhide hM1⟩,
      ((unhide HF).behind (unhide hb1)).trans hW (fun _ _ h => by rw [h];rfl)⟩,by simp [intOf];omega⟩
    ·obtain rfl:k=ce:=by omega
     have HO:=hide ho
     have HN:=hide N
     have HM:=hide M
     have HF:=hide hf
     have hll:(l.map (·.1)).length=l.length:=List.length_map _
     have hgp:g ≠ p:=fun e => (RowO.of_own N).ne hb (fun e => ht e.symm) (by rw [← e];rfl)
     have c0:=(blk_cell hb).trans h0
     have hde:=delete_any N 0 k (by omega) (by omega)
     rw [show ((0:Nat):Int)=0 from rfl,List.take_zero,List.nil_append,← List.map_drop] at hde
     replace hde:=hide hde
     clear ho N M hf hll
     go_upto_region 12 with fail
     refine (unhide hde).mono ?_
     rintro e z ⟨nv',rfl,N',hF',hown⟩
     have hbz:=hF'.blk hb (fun e => hgp (by cases e;rfl))
     have cz:=(blk_cell hbz).trans h0
     have fz:z.frozen? ⟨p,o,none⟩=false:=by simp [World.frozen?,hbz]
     have hlk:(List.map (fun x => x.1) (List.drop k l)).length=l.length - k:=by simp
     have hsh:=(RowO.of_own N').shape
     rw [hlk] at hsh
     obtain ⟨ad',cap',rfl,_⟩:=hsh
     replace hlk:=hide hlk
     replace N':=hide N'
     replace hown:=hide hown
     replace hF':=hide hF'
     go_wp2
     go_ret
     have S0:=unhide SS
     have hfar:Far (fun b => b=p ∨ ShU (.slice (some ⟨g,0,none⟩) l.length cap) mv b) w z:=((unhide HF).mono (fun _ _ h => .inr (.inr h))).trans (unhide hF') (fun _ _ h => .inr (.inl h))
     have hkeep:∀ b,b ≠ p→(z.setCell ⟨p,o,none⟩ (.slice ad' (l.length - k) cap')).heap[b]? = z.heap[b]?:=fun b hb => blk_set_ne hb
     have hmz:∀ b,mapBlock mv=some b→b ≠ p∧z.heap[b]? = wr.heap[b]?:=fun b hb' => by
      rcases unhide HM with ⟨h,_⟩ | ⟨b',h,hM'⟩
      ·rw [h] at hb';cases hb'
      ·rw [h] at hb';cases hb'
       exact ⟨fun e => hM'.not_cells (by rw [e];exact hb),(unhide hF').rest b hM'.lt (fun e => (unhide HN).notMap hM' e)⟩
     refine ⟨_,rfl,ownsRow_keep2 (unhide HO) (fun g' hg' => ?_),⟨_,⟨blk_set hbz,by simp [h0s],by rw [Array.getElem?_setIfInBounds_ne (by omega)];exact h1,⟨(unhide N').keep (fun g' hg' => hkeep g' ?_),(unhide HM).keep (fun b hb' => (hkeep b (hmz b hb').1).trans (hmz b hb').2),by rw [List.map_drop];exact S0.sorted.drop,by rw [List.length_drop];omega⟩,ht⟩,unhide hown⟩,hfar.trans (far_set z p o _) (fun _ _ h => .inl h)⟩
     ·have hg5:=World.ownsRow.lt (unhide HO) g' hg'
      have hpw:=lt_of_block hbW
      have hgw:=lt_of_block hh
      exact (hkeep g' (by omega)).trans ((unhide hF').rest g' hg5.2 (fun e => by have e2:g=g':=Option.some.inj e;omega))
     ·rw [unhide hown] at hg'
      cases hg'
      exact hgp
end Go.Proofs.YtamafdcnbcoegabGreat
namespace Go.Proofs.YtamafdcnbcoegabGreat
open Go.RowKit
structure KaAt (w:World) (p:Nat) (g:Nat→Nat) (tk:Nat) (wel fen:Bool) (free:List Nat) (sh:Nat→List (Nat × Value)) (arr:Array Value) (s:Nat) (nv mv:Nat→Value) (fv rv:Value):Prop where
 blk:w.heap[p]? = some (.cells arr 116 (0,0))
 sz:arr.size=27
 a0:arr[0]? = some (ptrTo s)
 ag:∀ i,i < 3→arr[1+i]? = some (.int .i64 (g i))
 an:∀ k,k < 9→arr[4+k * 2]? = some (nv k)
 am:∀ k,k < 9→arr[4+k * 2+1]? = some (mv k)
 af:arr[22]? = some fv
 at':arr[23]? = some (.int .i64 tk)
 aw:arr[24]? = some (.bool wel)
 ae:arr[25]? = some (.bool fen)
 ar:arr[26]? = some rv
 fr:RowO w 3 1 fv free.length (numCells free)
 shs:∀ k,k < 9→ShelfIs w (nv k) (mv k) (sh k)
 apf:∀ k,k < 9→∀ j,ShU (nv k) (mv k) j→fv.ownBlock ≠ some j
 aps:∀ j k,j < 9→k < 9→j ≠ k→∀ b,ShU (nv j) (mv j) b→¬ ShU (nv k) (mv k) b
def KaU (p:Nat) (nv mv:Nat→Value) (fv:Value) (k:Nat):Prop:=k=p ∨ fv.ownBlock=some k ∨ ∃ i,i < 9∧ShU (nv i) (mv i) k
structure Av where
 arr:Array Value
 s:Nat
 dp:Nat
 nv:Nat→Value
 mv:Nat→Value
 fv:Value
 rv:Value
 dlv:Value
 duv:Value
def agRules (p:Nat):List Value:=[.int .i64 2,.func (.func 76) #[ptrTo p] #[],.int .i64 4,.func (.func 77) #[ptrTo p] #[],.int .i64 5,.func (.func 78) #[ptrTo p] #[]]
structure PaAt (w:World) (p:Nat) (g:Nat→Nat) (tk:Nat) (wel fen:Bool) (free:List Nat) (sh:Nat→List (Nat × Value)) (st:Mod.Stv) (c:Av):Prop where
 ks:KaAt w p g tk wel fen free sh c.arr c.s c.nv c.mv c.fv c.rv
 stt:StAt w c.s c.dp st c.dlv c.duv
 rl:RowO w 134 2 c.rv 3 (agRules p)
 len:st.dk.bytes.length=1664
def PaU (p:Nat) (c:Av) (k:Nat):Prop:=KaU p c.nv c.mv c.fv k ∨ StU c.s c.dp c.dlv c.duv k ∨ c.rv.ownBlock=some k
section
variable {w x y:World} {p:Nat} {g g2:Nat→Nat} {tk tk2:Nat} {wel wel2 fen fen2:Bool} {free free2:List Nat} {sh sh2:Nat→List (Nat × Value)} {arr:Array Value} {s:Nat} {nv mv:Nat→Value} {fv rv:Value} {st st2:Mod.Stv} {c:Av}
theorem KaAt.far {E:Nat→Prop} (h:KaAt w p g tk wel fen free sh arr s nv mv fv rv) (hf:Far E w x) (hE:∀ k,KaU p nv mv fv k→¬ E k):KaAt x p g tk wel fen free sh arr s nv mv fv rv :=
 ⟨hf.blk h.blk (hE p (.inl rfl)),h.sz,h.a0,h.ag,h.an,h.am,h.af,h.at',h.aw,h.ae,h.ar,h.fr.far hf (fun g hg => hE g (.inr (.inl hg))),fun i hi => (h.shs i hi).far hf (fun k hk => hE k (.inr (.inr ⟨i,hi,hk⟩))),h.apf,h.aps⟩
theorem KaAt.lt (h:KaAt w p g tk wel fen free sh arr s nv mv fv rv):∀ k,KaU p nv mv fv k→k < w.heap.size:=by
 rintro k (rfl | hk | ⟨i,hi,hk⟩)
 ·exact lt_of_block h.blk
 ·exact h.fr.lt k hk
 ·exact (h.shs i hi).lt k hk
theorem ka_not_cells (h:KaAt w p g tk wel fen free sh arr s nv mv fv rv) {q:Nat} {cs:Array Value} {t:TypeId} {fr:Nat × Nat} (hb:w.heap[q]? = some (.cells cs t fr)) (h1:t ≠ 116) (h3:t ≠ 3):¬ KaU p nv mv fv q:=by
 rintro (rfl | hk | ⟨i,hi,hk⟩)
 ·have:=h.blk
  rw [hb] at this
  injection this with this
  injection this with _ this _
  exact h1 this
 ·exact h.fr.ne hb (fun e => h3 e.symm) hk
 ·exact (h.shs i hi).ne hb h3 hk
theorem PaAt.lt (h:PaAt w p g tk wel fen free sh st c):∀ k,PaU p c k→k < w.heap.size:=by
 rintro k (hk | hk | hk)
 ·exact h.ks.lt k hk
 ·exact h.stt.lt k hk
 ·exact h.rl.lt k hk
theorem PaAt.far {E:Nat→Prop} (h:PaAt w p g tk wel fen free sh st c) (hf:Far E w x) (hE:∀ k,PaU p c k→¬ E k):PaAt x p g tk wel fen free sh st c :=
 ⟨h.ks.far hf (fun k hk => hE k (.inl hk)),h.stt.far hf (fun k hk => hE k (.inr (.inl hk))),h.rl.far hf (fun g hg => hE g (.inr (.inr hg))),h.len⟩
theorem PaAt.below (h:PaAt w p g tk wel fen free sh st c) (hb:Below w.heap.size w x):PaAt x p g tk wel fen free sh st c:=h.far (far_below (E:=fun _ => False) hb) (fun _ _ h => h)
theorem PaAt.sep (h:PaAt w p g tk wel fen free sh st c):∀ k,KaU p c.nv c.mv c.fv k→¬ StU c.s c.dp c.dlv c.duv k:=by
 rintro k hk (hs | hs | hs | hs)
 ·subst hs;exact ka_not_cells h.ks h.stt.blk (by decide) (by decide) hk
 ·subst hs;exact ka_not_cells h.ks h.stt.dk.blk (by decide) (by decide) hk
 ·obtain ⟨cur,hc⟩:=row_cells (RowO.of_own h.stt.dk.row) hs
  exact ka_not_cells h.ks hc (by decide) (by decide) hk
 ·obtain ⟨cur,hc⟩:=row_cells h.stt.dk.un hs
  exact ka_not_cells h.ks hc (by decide) (by decide) hk
theorem PaAt.sepr (h:PaAt w p g tk wel fen free sh st c):∀ k,c.rv.ownBlock=some k→¬ KaU p c.nv c.mv c.fv k∧¬ StU c.s c.dp c.dlv c.duv k:=by
 intro k hk
 obtain ⟨cur,hc⟩:=row_cells h.rl hk
 refine ⟨ka_not_cells h.ks hc (by decide) (by decide),?_⟩
 rintro (hs | hs)
 ·rw [hs,h.stt.blk] at hc
  injection hc with hc
  injection hc with _ hc _
  exact absurd hc (by decide)
 ·exact dk_ne h.stt.dk hc (by decide) (by decide) (by decide) hs
theorem pa_not_cells (H:PaAt w p g tk wel fen free sh st c) {q:Nat} {cs:Array Value} {t:TypeId} {fr:Nat × Nat} (hb:w.heap[q]? = some (.cells cs t fr))
  (h1:t ≠ 116) (h3:t ≠ 3) (h4:t ≠ 190) (h5:t ≠ 233) (h6:t ≠ 5) (h7:t ≠ 254) (h8:t ≠ 134):¬ PaU p c q:=by
 rintro (h | (h | h) | h)
 ·exact ka_not_cells H.ks hb h1 h3 h
 ·subst h
  have:=H.stt.blk
  rw [hb] at this
  injection this with this
  injection this with _ this _
  exact h4 this
 ·exact dk_ne H.stt.dk hb (fun e => h5 e.symm) (fun e => h6 e.symm) (fun e => h7 e.symm) h
 ·exact H.rl.ne hb (fun e => h8 e.symm) h
def PaStep (w x:World) (p:Nat) (g:Nat→Nat) (tk:Nat) (wel fen:Bool) (free:List Nat) (sh:Nat→List (Nat × Value)) (st:Mod.Stv) (c:Av):Prop :=
 ∃ c',PaAt x p g tk wel fen free sh st c' ∧ Far (PaU p c) w x∧(∀ k,PaU p c' k→PaU p c k ∨ w.heap.size ≤ k)∧c'.s=c.s∧c'.rv=c.rv
theorem paStep_refl (H:PaAt w p g tk wel fen free sh st c):PaStep w w p g tk wel fen free sh st c:=⟨c,H,Far.refl _ _,fun _ h => .inl h,rfl,rfl⟩
theorem PaStep.trans (h:PaStep w x p g tk wel fen free sh st c) (h':∀ c',PaAt x p g tk wel fen free sh st c' → PaStep x y p g2 tk2 wel2 fen2 free2 sh2 st2 c'):PaStep w y p g2 tk2 wel2 fen2 free2 sh2 st2 c:=by
 obtain ⟨c1,h1,h2,h3,h4,h5⟩:=h
 obtain ⟨c2,k1,k2,k3,k4,k5⟩:=h' c1 h1
 refine ⟨c2,k1,h2.trans k2 (fun k hk hu => (h3 k hu).elim id (fun h => by omega)),fun k hk => ?_,k4.trans h4,k5.trans h5⟩
 rcases k3 k hk with h | h
 ·exact h3 k h
 ·exact .inr (Nat.le_trans h2.size h)
theorem PaStep.below (h:PaStep w x p g tk wel fen free sh st c) (hb:Below x.heap.size x y):PaStep w y p g tk wel fen free sh st c :=
 h.trans (fun c' H => ⟨c',H.below hb,far_below hb,fun _ h => .inl h,rfl,rfl⟩)
theorem PaStep.behind (h:PaStep x y p g tk wel fen free sh st c) (hb:Below w.heap.size w x):PaStep w y p g tk wel fen free sh st c:=by
 obtain ⟨c',h1,h2,h3,h4,h5⟩:=h
 exact ⟨c',h1,(far_below (E:=PaU p c) hb).trans h2 (fun _ _ h => h),fun k hk => (h3 k hk).imp id (fun h => Nat.le_trans hb.size h),h4,h5⟩
theorem PaAt.shAt (H:PaAt w p g tk wel fen free sh st c) {i:Nat} (hi:i < 9):ShAt w p (4+i * 2) 116 c.arr (c.nv i) (c.mv i) (sh i) :=
 ⟨H.ks.blk,H.ks.an i hi,H.ks.am i hi,H.ks.shs i hi,by decide⟩
theorem paStep_sh (H:PaAt w p g tk wel fen free sh st c) {i:Nat} (hi:i < 9) {l':List (Nat × Value)} (h:ShStep w x p (4+i * 2) 116 c.arr (c.nv i) (c.mv i) l') :
  PaStep w x p g tk wel fen free (fun t => if t=i then l' else sh t) st c:=by
 obtain ⟨⟨nv',mv',S,hn,hm⟩,hF⟩:=h
 have hFU:∀ k,(k=p ∨ ShU (c.nv i) (c.mv i) k)→KaU p c.nv c.mv c.fv k:=fun k hk => hk.elim .inl (fun h => .inr (.inr ⟨i,hi,h⟩))
 have hsz:=H.ks.sz
 have hget:∀ j,j ≠ 4+i * 2→j ≠ 4+i * 2+1→((c.arr.setIfInBounds (4+i * 2) nv').setIfInBounds (4+i * 2+1) mv')[j]? = c.arr[j]?:=fun j h1 h2 => by
  rw [Array.getElem?_setIfInBounds_ne (by omega),Array.getElem?_setIfInBounds_ne (by omega)]
 have hnew:∀ k,ShU nv' mv' k→ShU (c.nv i) (c.mv i) k ∨ w.heap.size ≤ k:=by
  rintro k (hk | hk)
  ·rcases hn with h | h | ⟨g,h,hg⟩
   ·rw [h] at hk;cases hk
   ·exact .inl (.inl (by rw [← h];exact hk))
   ·rw [h] at hk;cases hk;exact .inr hg
  ·rcases hm with h | ⟨g,h,hg⟩
   ·exact .inl (.inr (by rw [← h];exact hk))
   ·rw [h] at hk;cases hk;exact .inr hg
 have hfvp:c.fv.ownBlock ≠ some p:=H.ks.fr.ne H.ks.blk (by decide)
 refine ⟨{ c with arr:=(c.arr.setIfInBounds (4+i * 2) nv').setIfInBounds (4+i * 2+1) mv',nv:=fun t => if t=i then nv' else c.nv t,mv:=fun t => if t=i then mv' else c.mv t },
  ⟨⟨S.blk,by simpa using hsz,?_,?_,?_,?_,?_,?_,?_,?_,?_,?_,?_,?_,?_⟩,H.stt.far hF (fun k hk h => H.sep k (hFU k h) hk),H.rl.far hF (fun g hg h => (H.sepr g hg).1 (hFU g h)),H.len⟩,hF.mono (fun k _ h => .inl (hFU k h)),?_,rfl,rfl⟩
 ·rw [hget _ (by omega) (by omega)];exact H.ks.a0
 ·intro j hj;rw [hget _ (by omega) (by omega)];exact H.ks.ag j hj
 ·intro j hj
  show _=some (if j=i then nv' else c.nv j)
  by_cases e:j=i
  ·subst e;rw [if_pos rfl];exact S.c0
  ·rw [if_neg e,hget _ (by omega) (by omega)];exact H.ks.an j hj
 ·intro j hj
  show _=some (if j=i then mv' else c.mv j)
  by_cases e:j=i
  ·subst e;rw [if_pos rfl];exact S.c1
  ·rw [if_neg e,hget _ (by omega) (by omega)];exact H.ks.am j hj
 ·rw [hget _ (by omega) (by omega)];exact H.ks.af
 ·rw [hget _ (by omega) (by omega)];exact H.ks.at'
 ·rw [hget _ (by omega) (by omega)];exact H.ks.aw
 ·rw [hget _ (by omega) (by omega)];exact H.ks.ae
 ·rw [hget _ (by omega) (by omega)];exact H.ks.ar
 ·exact H.ks.fr.far hF (fun g hg h => h.elim (fun h => hfvp (by rw [hg,h])) (fun h => H.ks.apf i hi g h hg))
 ·intro j hj
  show ShelfIs x (if j=i then nv' else c.nv j) (if j=i then mv' else c.mv j) (if j=i then l' else sh j)
  by_cases e:j=i
  ·rw [if_pos e,if_pos e,if_pos e];exact S.sh
  ·rw [if_neg e,if_neg e,if_neg e]
   refine (H.ks.shs j hj).far hF (fun k hk h => ?_)
   rcases h with h | h
   ·exact (H.ks.shs j hj).ne H.ks.blk (by decide) (by rw [← h];exact hk)
   ·exact H.ks.aps j i hj hi e k hk h
 ·intro j hj b hb
  replace hb:ShU (if j=i then nv' else c.nv j) (if j=i then mv' else c.mv j) b:=hb
  by_cases e:j=i
  ·rw [if_pos e,if_pos e] at hb
   rcases hnew b hb with h | h
   ·exact H.ks.apf i hi b h
   ·intro hf
    have:=H.ks.fr.lt b hf
    omega
  ·rw [if_neg e,if_neg e] at hb
   exact H.ks.apf j hj b hb
 ·intro j j2 hj hj2 hne k hk
  replace hk:ShU (if j=i then nv' else c.nv j) (if j=i then mv' else c.mv j) k:=hk
  show ¬ ShU (if j2=i then nv' else c.nv j2) (if j2=i then mv' else c.mv j2) k
  by_cases h1:j=i
  ·subst h1
   rw [if_pos rfl,if_pos rfl] at hk
   rw [if_neg (fun e => hne e.symm),if_neg (fun e => hne e.symm)]
   intro hk2
   rcases hnew k hk with h | h
   ·exact H.ks.aps j j2 hj hj2 hne k h hk2
   ·have:=(H.ks.shs j2 hj2).lt k hk2;omega
  ·rw [if_neg h1,if_neg h1] at hk
   by_cases h2:j2=i
   ·subst h2
    rw [if_pos rfl,if_pos rfl]
    intro hk2
    rcases hnew k hk2 with h | h
    ·exact H.ks.aps j j2 hj hj2 hne k hk h
    ·have:=(H.ks.shs j hj).lt k hk;omega
   ·rw [if_neg h2,if_neg h2]
    exact H.ks.aps j j2 hj hj2 hne k hk
 ·rintro k ((rfl | hk | ⟨j,hj,hk⟩) | hk | hk)
  ·exact .inl (.inl (.inl rfl))
  ·exact .inl (.inl (.inr (.inl hk)))
  ·have hk:ShU (if j=i then nv' else c.nv j) (if j=i then mv' else c.mv j) k:=hk
   by_cases e:j=i
   ·rw [if_pos e,if_pos e] at hk
    exact (hnew k hk).elim (fun h => .inl (.inl (.inr (.inr ⟨i,hi,h⟩)))) .inr
   ·rw [if_neg e,if_neg e] at hk
    exact .inl (.inl (.inr (.inr ⟨j,hj,hk⟩)))
  ·exact .inl (.inr (.inl hk))
  ·exact .inl (.inr (.inr hk))
theorem paStep_cell (H:PaAt w p g tk wel fen free sh st c) (i:Nat) (v:Value) (hi:(1 ≤ i∧i < 4) ∨ (23 ≤ i∧i < 26))
  (hg:∀ j,j < 3→(c.arr.setIfInBounds i v)[1+j]? = some (.int .i64 (g2 j))) (ht:(c.arr.setIfInBounds i v)[23]? = some (.int .i64 tk2)) (hw:(c.arr.setIfInBounds i v)[24]? = some (.bool wel2)) (he:(c.arr.setIfInBounds i v)[25]? = some (.bool fen2)) :
  PaStep w (w.setCell ⟨p,i,none⟩ v) p g2 tk2 wel2 fen2 free sh st c:=by
 have hs:=far_set w p i v
 have hget:∀ j,j ≠ i→(c.arr.setIfInBounds i v)[j]? = c.arr[j]?:=fun j hj => Array.getElem?_setIfInBounds_ne (fun e => hj e.symm)
 have hfvp:c.fv.ownBlock ≠ some p:=H.ks.fr.ne H.ks.blk (by decide)
 refine ⟨{ c with arr:=c.arr.setIfInBounds i v },⟨⟨blk_set H.ks.blk,by simpa using H.ks.sz,?_,hg,?_,?_,?_,ht,hw,he,?_,?_,?_,H.ks.apf,H.ks.aps⟩,H.stt.far hs (fun k hk h => H.sep k (.inl h) hk),H.rl.far hs (fun g hg h => (H.sepr g hg).1 (.inl h)),H.len⟩,hs.mono (fun k _ h => .inl (.inl h)),fun k hk => .inl hk,rfl,rfl⟩
 ·rw [hget _ (by omega)];exact H.ks.a0
 ·intro j hj;rw [hget _ (by omega)];exact H.ks.an j hj
 ·intro j hj;rw [hget _ (by omega)];exact H.ks.am j hj
 ·rw [hget _ (by omega)];exact H.ks.af
 ·rw [hget _ (by omega)];exact H.ks.ar
 ·exact H.ks.fr.far hs (fun g hg h => hfvp (by rw [hg,h]))
 ·intro j hj;exact (H.ks.shs j hj).far hs (fun k hk h => (H.ks.shs j hj).ne H.ks.blk (by decide) (by rw [← h];exact hk))
theorem paStep_free (H:PaAt w p g tk wel fen free sh st c) (v:Value) (hF:Far (fun k => c.fv.ownBlock=some k) w x) (hv:RowO x 3 1 v free2.length (numCells free2)) (hl:Loc w c.fv v) :
  PaStep w (x.setCell ⟨p,22,none⟩ v) p g tk wel fen free2 sh st c:=by
 have hs:=far_set x p 22 v
 have hget:∀ j,j ≠ 22→(c.arr.setIfInBounds 22 v)[j]? = c.arr[j]?:=fun j hj => Array.getElem?_setIfInBounds_ne (fun e => hj e.symm)
 have h22:22 < c.arr.size:=by rw [H.ks.sz];omega
 have hfvp:c.fv.ownBlock ≠ some p:=H.ks.fr.ne H.ks.blk (by decide)
 have hbx:=hF.blk H.ks.blk hfvp
 have hvp:v.ownBlock ≠ some p:=hv.ne hbx (by decide)
 have hF2:Far (fun k => k=p ∨ c.fv.ownBlock=some k) w (x.setCell ⟨p,22,none⟩ v):=(hF.mono (fun _ _ h => .inr h)).trans hs (fun _ _ h => .inl h)
 have hEU:∀ k,(k=p ∨ c.fv.ownBlock=some k)→KaU p c.nv c.mv c.fv k:=fun k h => h.elim .inl (fun h => .inr (.inl h))
 refine ⟨{ c with arr:=c.arr.setIfInBounds 22 v,fv:=v },⟨⟨blk_set hbx,by simpa using H.ks.sz,?_,?_,?_,?_,?_,?_,?_,?_,?_,?_,?_,?_,H.ks.aps⟩,H.stt.far hF2 (fun k hk h => H.sep k (hEU k h) hk),H.rl.far hF2 (fun g hg h => (H.sepr g hg).1 (hEU g h)),H.len⟩,hF2.mono (fun k _ h => .inl (hEU k h)),?_,rfl,rfl⟩
 ·rw [hget _ (by omega)];exact H.ks.a0
 ·intro j hj;rw [hget _ (by omega)];exact H.ks.ag j hj
 ·intro j hj;rw [hget _ (by omega)];exact H.ks.an j hj
 ·intro j hj;rw [hget _ (by omega)];exact H.ks.am j hj
 ·simp [h22]
 ·rw [hget _ (by omega)];exact H.ks.at'
 ·rw [hget _ (by omega)];exact H.ks.aw
 ·rw [hget _ (by omega)];exact H.ks.ae
 ·rw [hget _ (by omega)];exact H.ks.ar
 ·exact hv.far hs (fun g hg e => hvp (by rw [hg,e]))
 ·intro j hj
  refine (H.ks.shs j hj).far hF2 (fun k hk e => ?_)
  rcases e with rfl | e
  ·exact (H.ks.shs j hj).ne H.ks.blk (by decide) hk
  ·exact H.ks.apf j hj k hk e
 ·intro j hj b hb hvb
  rcases hl with h | h | ⟨g',h,hg'⟩
  ·rw [h] at hvb;cases hvb
  ·rw [h] at hvb;exact H.ks.apf j hj b hb hvb
  ·rw [h] at hvb;cases hvb
   have:=(H.ks.shs j hj).lt b hb
   omega
 ·rintro k ((rfl | hk | hk) | hk | hk)
  ·exact .inl (.inl (.inl rfl))
  ·rcases hl with h | h | ⟨g',h,hg'⟩
   ·rw [h] at hk;cases hk
   ·exact .inl (.inl (.inr (.inl (by rw [← h];exact hk))))
   ·rw [h] at hk;cases hk;exact .inr hg'
  ·exact .inl (.inl (.inr (.inr hk)))
  ·exact .inl (.inr (.inl hk))
  ·exact .inl (.inr (.inr hk))
end
end Go.Proofs.YtamafdcnbcoegabGreat
namespace Go.Proofs.YtamafdcnbcoegabGreat
open Go.RowKit
def keptL:Nat→List (ByteArray × Nat)→List Nat→List (Nat × Value)
 | b,x :: r,q :: qs => (b+1,recA x.1 q) :: keptL (b+1) r qs
 | _,_,_ => []
theorem keptL_cons (b:Nat) (x:ByteArray × Nat) (r:List (ByteArray × Nat)) (q:Nat) (qs:List Nat):keptL b (x :: r) (q :: qs)=(b+1,recA x.1 q) :: keptL (b+1) r qs:=rfl
theorem keptL_length:∀ (b:Nat) (k:List (ByteArray × Nat)) (p:List Nat),p.length=k.length→(keptL b k p).length=k.length
 | b,[],[],_ => rfl
 | b,x :: r,q :: qs,h => by
  rw [keptL_cons,List.length_cons,keptL_length (b+1) r qs (by simpa using h),List.length_cons]
theorem keptL_get:∀ (b:Nat) (k:List (ByteArray × Nat)) (p:List Nat) (j:Nat),p.length=k.length→∀ (hj:j < k.length),(keptL b k p)[j]? = some (b+1+j,recA k[j].1 (p.getD j 0))
 | b,[],_,j,_,hj => by simp at hj
 | b,x :: r,[],j,h,_ => by simp at h
 | b,x :: r,q :: qs,0,h,hj => by simp [keptL]
 | b,x :: r,q :: qs,j+1,h,hj => by
  rw [keptL_cons,List.getElem?_cons_succ,keptL_get (b+1) r qs j (by simpa using h) (by simpa using hj)]
  simp
  omega
theorem keptL_app:∀ (b:Nat) (k k':List (ByteArray × Nat)) (p p':List Nat),p.length=k.length→keptL b (k ++ k') (p ++ p')=keptL b k p ++ keptL (b+k.length) k' p'
 | b,[],k',[],p',_ => by simp [keptL]
 | b,[],k',q :: qs,p',h => by simp at h
 | b,x :: r,k',[],p',h => by simp at h
 | b,x :: r,k',q :: qs,p',h => by
  show keptL b (x :: (r ++ k')) (q :: (qs ++ p'))=_
  rw [keptL_cons,keptL_cons,keptL_app (b+1) r k' qs p' (by simpa using h),show b+1+r.length=b+(r.length+1) by omega]
  rfl
theorem keptL_same:∀ (b:Nat) (k k':List (ByteArray × Nat)) (p:List Nat),k.map (·.1)=k'.map (·.1)→keptL b k p=keptL b k' p
 | _,[],[],_,_ => rfl
 | b,[],_ :: _,p,h => by simp at h
 | b,_ :: _,[],p,h => by simp at h
 | b,x :: r,y :: s,[],_ => by simp [keptL]
 | b,x :: r,y :: s,q :: qs,h => by
  simp only [List.map_cons,List.cons.injEq] at h
  rw [keptL_cons,keptL_cons,h.1,keptL_same (b+1) r s qs h.2]
theorem keptL_mem:∀ (b:Nat) (k:List (ByteArray × Nat)) (p:List Nat),∀ x ∈ keptL b k p,b < x.1
 | b,[],_,x,hx => by simp [keptL] at hx
 | b,_ :: _,[],x,hx => by simp [keptL] at hx
 | b,y :: r,q :: qs,x,hx => by
  rw [keptL_cons] at hx
  cases hx with
  | head => show b < b+1;omega
  | tail _ hx =>
   have:=keptL_mem (b+1) r qs x hx
   omega
theorem keptL_le:∀ (b:Nat) (k:List (ByteArray × Nat)) (p:List Nat),∀ x ∈ keptL b k p,x.1 ≤ b+k.length
 | b,[],_,x,hx => by simp [keptL] at hx
 | b,_ :: _,[],x,hx => by simp [keptL] at hx
 | b,y :: r,q :: qs,x,hx => by
  rw [keptL_cons] at hx
  cases hx with
  | head => show b+1 ≤ _;simp
  | tail _ hx =>
   have:=keptL_le (b+1) r qs x hx
   simp at this ⊢
   omega
theorem keptL_are:∀ (b:Nat) (k:List (ByteArray × Nat)) (p:List Nat),AreA (keptL b k p)
 | b,[],_,x,hx => by simp [keptL] at hx
 | b,_ :: _,[],x,hx => by simp [keptL] at hx
 | b,y :: r,q :: qs,x,hx => by
  rw [keptL_cons] at hx
  cases hx with
  | head => exact ⟨y.1,q,rfl⟩
  | tail _ hx => exact keptL_are (b+1) r qs x hx
theorem keptL_last (b:Nat) (k:List (ByteArray × Nat)) (p:List Nat) (h:p.length=k.length):max (match (keptL b k p).getLast? with | none => 0 | some x => x.1) b=b+k.length:=by
 rcases List.eq_nil_or_concat k with rfl | ⟨k',x,rfl⟩
 ·simp [keptL]
 ·rcases List.eq_nil_or_concat p with rfl | ⟨p',q,rfl⟩
  ·simp at h
  ·have h':p'.length=k'.length:=by simpa using h
   have:(keptL b (k' ++ [x]) (p' ++ [q])).getLast? = some (b+k'.length+1,recA x.1 q):=by
    rw [keptL_app b k' [x] p' [q] h']
    simp [keptL]
   rw [List.concat_eq_append,List.concat_eq_append] at *
   rw [this]
   simp
   omega
theorem putL_end:∀ (l:List (Nat × Value)) (n:Nat) (v:Value),(∀ x ∈ l,x.1 < n)→putL l n v=l ++ [(n,v)]
 | [],n,v,_ => rfl
 | x :: r,n,v,h => by
  have h0:=h x (.head _)
  unfold putL
  rw [if_neg (by omega),if_neg (by omega),putL_end r n v (fun y hy => h y (.tail _ hy))]
  rfl
theorem keptL_put (b:Nat) (k:List (ByteArray × Nat)) (p:List Nat) (h:p.length=k.length) (s:ByteArray) (t q:Nat):putL (keptL b k p) (b+k.length+1) (recA s q)=keptL b (k ++ [(s,t)]) (p ++ [q]):=by
 rw [putL_end _ _ _ (fun x hx => by have:=keptL_le b k p x hx;omega),keptL_app b k [(s,t)] p [q] h]
 simp [keptL]
theorem keptL_drop:∀ (n b:Nat) (k:List (ByteArray × Nat)) (p:List Nat),n ≤ k.length→p.length=k.length→(keptL b k p).drop n=keptL (b+n) (k.drop n) (p.drop n)
 | 0,b,k,p,_,_ => rfl
 | n+1,b,[],p,h,_ => by simp at h
 | n+1,b,x :: r,[],_,h => by simp at h
 | n+1,b,x :: r,q :: qs,h,h2 => by
  show (keptL b (x :: r) (q :: qs)).drop (n+1)=keptL (b+(n+1)) (r.drop n) (qs.drop n)
  rw [keptL_cons,List.drop_succ_cons,keptL_drop n (b+1) r qs (by simpa using h) (by simpa using h2),show b+1+n=b+(n+1) by omega]
theorem keptL_cut:∀ (n b:Nat) (k:List (ByteArray × Nat)) (p:List Nat),n ≤ k.length→p.length=k.length→cutAt (keptL b k p) (b+n)=n
 | 0,b,k,p,_,_ => by
  unfold cutAt
  rw [List.countP_eq_zero]
  intro x hx
  have:=keptL_mem b k p x hx
  simp;omega
 | n+1,b,[],p,h,_ => by simp at h
 | n+1,b,x :: r,[],_,h => by simp at h
 | n+1,b,x :: r,q :: qs,h,h2 => by
  have ih:=keptL_cut n (b+1) r qs (by simpa using h) (by simpa using h2)
  unfold cutAt at ih ⊢
  rw [keptL_cons,List.countP_cons,show b+(n+1)=b+1+n by omega,ih]
  simp
def sentF (f:Mod.Flow) (n:Nat):Option Value :=
 if n ≤ f.base then none else match f.kept[n - f.base - 1]? with
  | some x => if x.2=0 then none else some (recI x.2)
  | none => none
structure OnAg (a:Mod.Ag) (op:Nat) (g:Nat→Nat) (free:List Nat) (sh:Nat→List (Nat × Value)) (pl:Nat→List Nat):Prop where
 ep:op=a.epoch
 bs:∀ i,i < 3→g i=(a.fl i).base
 pn:∀ i,i < 3→(pl i).length=(a.fl i).kept.length
 kp:∀ i,i < 3→sh (i * 3)=keptL (a.fl i).base (a.fl i).kept (pl i)
 sn:∀ i,i < 3→∀ n:Nat,look (sh (i * 3+1)) (n:Int)=sentF (a.fl i) n
 si:∀ i,i < 3→AreI (sh (i * 3+1))
 hd:∀ i,i < 3→∀ n:Nat,(look (sh (i * 3+2)) (n:Int)).isSome=(a.fl i).held.contains n
 hu:∀ i,i < 3→AreU (sh (i * 3+2))
 hl:∀ i,i < 3→(sh (i * 3+2)).length ≤ 3
 nd:(free ++ pl 0 ++ pl 1 ++ pl 2).Nodup
 lt:∀ x ∈ free ++ pl 0 ++ pl 1 ++ pl 2,x < 24
 sum:free.length+a.room=24
theorem room_le {a:Mod.Ag} {i:Nat} (hi:i < 3):(a.fl i).kept.length ≤ a.room:=by
 obtain rfl | rfl | rfl:i=0 ∨ i=1 ∨ i=2:=by omega
 all_goals
  unfold Mod.Ag.room
  omega
theorem OnAg.small {a:Mod.Ag} {op:Nat} {g:Nat→Nat} {free:List Nat} {sh:Nat→List (Nat × Value)} {pl:Nat→List Nat} (O:OnAg a op g free sh pl) {i:Nat} (hi:i < 3):(a.fl i).kept.length ≤ 24:=by
 have:=room_le (a:=a) hi
 have:=O.sum
 omega
theorem sent_small {f:Mod.Flow} {l:List (Nat × Value)} (hs:(l.map (·.1)).Pairwise (· < ·)) (h:∀ n:Nat,look l (n:Int)=sentF f n):l.length ≤ f.kept.length:=by
 have hin:∀ n ∈ l.map (·.1),f.base < n∧n ≤ f.base+f.kept.length:=by
  intro n hn
  have hc:(look l (n:Int)).isSome=true:=by rw [look_isSome];simpa using hn
  rw [h n] at hc
  unfold sentF at hc
  split at hc
  ·cases hc
  ·split at hc
   ·rename_i x hx
    have:=(List.getElem?_eq_some_iff.1 hx).1
    omega
   ·cases hc
 have h1:((l.map (·.1)).map fun n => n - f.base - 1).Nodup:=by
  rw [List.Nodup,List.pairwise_map]
  refine hs.imp_of_mem (fun {x y} hx hy hlt e => ?_)
  have gx:=hin x hx
  have gy:=hin y hy
  omega
 have h2:=nodup_lt f.kept.length _ h1 (fun n hn => by
  obtain ⟨m,hm,rfl⟩:=List.mem_map.1 hn
  have:=hin m hm
  omega)
 simpa using h2
end Go.Proofs.YtamafdcnbcoegabGreat
namespace Go.Proofs.YtamafdcnbcoegabGreat
open Go.RowKit
section
variable {a:Mod.Ag} {op:Nat} {g:Nat→Nat} {free:List Nat} {sh:Nat→List (Nat × Value)} {pl:Nat→List Nat}
theorem sentF_snoc (f:Mod.Flow) (s:ByteArray) (n:Nat):sentF { f with kept:=f.kept ++ [(s,0)] } n=sentF f n:=by
 unfold sentF
 simp only
 split
 ·rfl
 ·by_cases h:n - f.base - 1 < f.kept.length
  ·rw [List.getElem?_append_left h]
  ·rw [List.getElem?_append_right (by omega)]
   have h2:f.kept[n - f.base - 1]? = none:=List.getElem?_eq_none (by omega)
   rw [h2]
   by_cases h3:n - f.base - 1 - f.kept.length=0
   ·rw [h3];rfl
   ·have:([(s,0)]:List (ByteArray × Nat))[n - f.base - 1 - f.kept.length]? = none:=List.getElem?_eq_none (by simp;omega)
    rw [this]
theorem perm_pl {i:Nat} (hi:i < 3) (p':List Nat) (fr:List Nat) (h:(fr ++ p').Perm (free ++ pl i)) :
  (fr ++ (fun t => if t=i then p' else pl t) 0 ++ (fun t => if t=i then p' else pl t) 1 ++ (fun t => if t=i then p' else pl t) 2).Perm (free ++ pl 0 ++ pl 1 ++ pl 2):=by
 obtain rfl | rfl | rfl:i=0 ∨ i=1 ∨ i=2:=by omega
 ·simp only [if_pos,if_neg (show ¬ (1:Nat)=0 by omega),if_neg (show ¬ (2:Nat)=0 by omega)]
  exact (h.append_right _).append_right _
 ·simp only [if_neg (show ¬ (0:Nat)=1 by omega),if_pos,if_neg (show ¬ (2:Nat)=1 by omega)]
  refine List.Perm.append_right _ ?_
  have h1:(fr ++ pl 0 ++ p').Perm (fr ++ p' ++ pl 0):=by
   rw [List.append_assoc,List.append_assoc]
   exact List.perm_append_comm.append_left _
  have h2:(free ++ pl 1 ++ pl 0).Perm (free ++ pl 0 ++ pl 1):=by
   rw [List.append_assoc,List.append_assoc]
   exact List.perm_append_comm.append_left _
  exact (h1.trans (h.append_right _)).trans h2
 ·simp only [if_neg (show ¬ (0:Nat)=2 by omega),if_neg (show ¬ (1:Nat)=2 by omega),if_pos]
  have h1:(fr ++ pl 0 ++ pl 1 ++ p').Perm (fr ++ p' ++ (pl 0 ++ pl 1)):=by
   rw [List.append_assoc fr,List.append_assoc,List.append_assoc fr p']
   exact List.perm_append_comm.append_left _
  have h2:(free ++ pl 2 ++ (pl 0 ++ pl 1)).Perm (free ++ pl 0 ++ pl 1 ++ pl 2):=by
   rw [List.append_assoc free (pl 0),List.append_assoc,List.append_assoc]
   exact List.perm_append_comm.append_left _
  exact (h1.trans (h.append_right _)).trans h2
theorem room_upd {i:Nat} (hi:i < 3) (f:Mod.Flow):(Mod.Ag.room { a with fl:=Mod.upd a.fl i f })+(a.fl i).kept.length=a.room+f.kept.length:=by
 obtain rfl | rfl | rfl:i=0 ∨ i=1 ∨ i=2:=by omega
 all_goals
  simp [Mod.Ag.room,Mod.upd]
  omega
theorem onAg_submit {fr:List Nat} {q:Nat} (O:OnAg a op g (fr ++ [q]) sh pl) {i:Nat} (hi:i < 3) (s:ByteArray) :
  OnAg (a.submit i s) op g fr (fun t => if t=i * 3 then putL (sh (i * 3)) ((a.fl i).base+(a.fl i).kept.length+1) (recA s q) else sh t) (fun t => if t=i then pl i ++ [q] else pl t):=by
 have hfl:∀ j,(a.submit i s).fl j=if j=i then { a.fl i with kept:=(a.fl i).kept ++ [(s,0)] } else a.fl j:=fun j => rfl
 refine ⟨O.ep,fun j hj => ?_,fun j hj => ?_,fun j hj => ?_,fun j hj n => ?_,fun j hj => ?_,fun j hj n => ?_,fun j hj => ?_,fun j hj => ?_,?_,?_,?_⟩
 ·rw [hfl]
  by_cases e:j=i
  ·subst e;rw [if_pos rfl];exact O.bs j hj
  ·rw [if_neg e];exact O.bs j hj
 ·rw [hfl]
  show (if j=i then pl i ++ [q] else pl j).length=_
  by_cases e:j=i
  ·subst e;rw [if_pos rfl,if_pos rfl];simp [O.pn j hj]
  ·rw [if_neg e,if_neg e];exact O.pn j hj
 ·rw [hfl]
  show (if j * 3=i * 3 then _ else sh (j * 3))=keptL _ _ (if j=i then pl i ++ [q] else pl j)
  by_cases e:j=i
  ·subst e
   rw [if_pos rfl,if_pos rfl,if_pos rfl,O.kp j hj]
   exact keptL_put _ _ _ (O.pn j hj) s 0 q
  ·rw [if_neg (by omega),if_neg e,if_neg e];exact O.kp j hj
 ·show look (if j * 3+1=i * 3 then _ else sh (j * 3+1)) _=_
  rw [if_neg (by omega),hfl,O.sn j hj n]
  by_cases e:j=i
  ·subst e;rw [if_pos rfl,sentF_snoc]
  ·rw [if_neg e]
 ·show AreI (if j * 3+1=i * 3 then _ else sh (j * 3+1))
  rw [if_neg (by omega)];exact O.si j hj
 ·show (look (if j * 3+2=i * 3 then _ else sh (j * 3+2)) _).isSome=_
  rw [if_neg (by omega),hfl,O.hd j hj n]
  by_cases e:j=i
  ·subst e;rw [if_pos rfl]
  ·rw [if_neg e]
 ·show AreU (if j * 3+2=i * 3 then _ else sh (j * 3+2))
  rw [if_neg (by omega)];exact O.hu j hj
 ·show (if j * 3+2=i * 3 then _ else sh (j * 3+2)).length ≤ 3
  rw [if_neg (by omega)];exact O.hl j hj
 ·refine (perm_pl hi (pl i ++ [q]) fr ?_).nodup_iff.2 O.nd
  rw [List.append_assoc fr [q]]
  exact List.perm_append_comm.append_left _
 ·intro x hx
  refine O.lt x ((perm_pl hi (pl i ++ [q]) fr ?_).mem_iff.1 hx)
  rw [List.append_assoc fr [q]]
  exact List.perm_append_comm.append_left _
 ·have h1:=O.sum
  obtain ⟨f2,hf2⟩:∃ f2,f2=({ a.fl i with kept:=(a.fl i).kept ++ [(s,0)] }:Mod.Flow):=⟨_,rfl⟩
  have hk:f2.kept.length=(a.fl i).kept.length+1:=by rw [hf2];simp
  have h3:(a.submit i s).room=Mod.Ag.room { a with fl:=Mod.upd a.fl i f2 }:=by rw [hf2];rfl
  have h2:=room_upd (a:=a) hi f2
  rw [hk] at h2
  rw [h3]
  rw [List.length_append,List.length_singleton] at h1
  omega
theorem look_dropcut {l:List (Nat × Value)} (hs:(l.map (·.1)).Pairwise (· < ·)) (m n:Nat):look (l.drop (cutAt l m)) (n:Int)=if n ≤ m then none else look l (n:Int):=by
 obtain ⟨h1,h2⟩:=cut_split (n:=m) hs
 have hsplit:∀ (l1 l2:List (Nat × Value)) (k:Int),look (l1 ++ l2) k=match look l1 k with | some v => some v | none => look l2 k:=by
  intro l1 l2 k
  induction l1 with
  | nil => rfl
  | cons x r ih =>
   show look (x :: (r ++ l2)) k=_
   rw [look_cons,look_cons]
   by_cases h:k=(x.1:Int)
   ·rw [if_pos h,if_pos h]
   ·rw [if_neg h,if_neg h,ih]
 have hl:l=l.take (cutAt l m) ++ l.drop (cutAt l m):=(List.take_append_drop _ _).symm
 by_cases hn:n ≤ m
 ·rw [if_pos hn]
  cases hv:look (l.drop (cutAt l m)) (n:Int) with
  | none => rfl
  | some v =>
   obtain ⟨x,hx,e,_⟩:=look_mem hv
   have:=h2 x hx
   omega
 ·rw [if_neg hn]
  conv => rhs;rw [hl]
  rw [hsplit]
  cases hv:look (l.take (cutAt l m)) (n:Int) with
  | none => rfl
  | some v =>
   obtain ⟨x,hx,e,_⟩:=look_mem hv
   have:=h1 x hx
   omega
theorem sentF_drop (f:Mod.Flow) (m n:Nat):sentF (f.drop m) n=if n ≤ f.base+m then none else sentF f n:=by
 unfold sentF Mod.Flow.drop
 simp only
 by_cases h:n ≤ f.base+m
 ·rw [if_pos h,if_pos h]
 ·rw [if_neg h,if_neg h,if_neg (by omega),List.getElem?_drop,show m+(n - (f.base+m) - 1)=n - f.base - 1 by omega]
theorem onAg_drop1 (O:OnAg a op g free sh pl) {i n:Nat} (hi:i < 3) (hn:n ≤ (a.fl i).kept.length) (hs:((sh (i * 3+1)).map (·.1)).Pairwise (· < ·)) :
  OnAg { a with fl:=Mod.upd a.fl i ((a.fl i).drop n) } op (fun t => (Mod.upd a.fl i ((a.fl i).drop n) t).base) (free ++ (pl i).take n)
   (fun t => if t=i * 3+1 then (sh (i * 3+1)).drop (cutAt (sh (i * 3+1)) ((a.fl i).base+n)) else (fun t => if t=i * 3 then (sh (i * 3)).drop (cutAt (sh (i * 3)) ((a.fl i).base+n)) else sh t) t) (fun t => if t=i then (pl i).drop n else pl t):=by
 have hfl:∀ j,Mod.upd a.fl i ((a.fl i).drop n) j=if j=i then (a.fl i).drop n else a.fl j:=fun j => rfl
 refine ⟨O.ep,fun j hj => rfl,fun j hj => ?_,fun j hj => ?_,fun j hj m => ?_,fun j hj => ?_,fun j hj m => ?_,fun j hj => ?_,fun j hj => ?_,?_,?_,?_⟩
 ·show (if j=i then (pl i).drop n else pl j).length=(Mod.upd a.fl i ((a.fl i).drop n) j).kept.length
  rw [hfl]
  by_cases e:j=i
  ·subst e;rw [if_pos rfl,if_pos rfl];simp [Mod.Flow.drop,O.pn j hj]
  ·rw [if_neg e,if_neg e];exact O.pn j hj
 ·show (if j * 3=i * 3+1 then _ else if j * 3=i * 3 then _ else sh (j * 3))=keptL (Mod.upd a.fl i ((a.fl i).drop n) j).base (Mod.upd a.fl i ((a.fl i).drop n) j).kept (if j=i then (pl i).drop n else pl j)
  rw [hfl,if_neg (by omega)]
  by_cases e:j=i
  ·subst e
   rw [if_pos rfl,if_pos rfl,if_pos rfl,O.kp j hj,keptL_cut n _ _ _ hn (O.pn j hj)]
   exact keptL_drop n _ _ _ hn (O.pn j hj)
  ·rw [if_neg (by omega),if_neg e,if_neg e];exact O.kp j hj
 ·show look (if j * 3+1=i * 3+1 then _ else if j * 3+1=i * 3 then _ else sh (j * 3+1)) _=sentF (Mod.upd a.fl i ((a.fl i).drop n) j) m
  rw [hfl]
  by_cases e:j=i
  ·subst e
   rw [if_pos rfl,if_pos rfl,look_dropcut hs,sentF_drop,O.sn j hj m]
  ·rw [if_neg (by omega),if_neg (by omega),if_neg e];exact O.sn j hj m
 ·show AreI (if j * 3+1=i * 3+1 then _ else if j * 3+1=i * 3 then _ else sh (j * 3+1))
  by_cases e:j=i
  ·subst e
   rw [if_pos rfl]
   exact fun x hx => O.si j hj x (List.mem_of_mem_drop hx)
  ·rw [if_neg (by omega),if_neg (by omega)];exact O.si j hj
 ·show (look (if j * 3+2=i * 3+1 then _ else if j * 3+2=i * 3 then _ else sh (j * 3+2)) _).isSome=(Mod.upd a.fl i ((a.fl i).drop n) j).held.contains m
  rw [hfl,if_neg (by omega),if_neg (by omega),O.hd j hj m]
  by_cases e:j=i
  ·subst e;rw [if_pos rfl];rfl
  ·rw [if_neg e]
 ·show AreU (if j * 3+2=i * 3+1 then _ else if j * 3+2=i * 3 then _ else sh (j * 3+2))
  rw [if_neg (by omega),if_neg (by omega)];exact O.hu j hj
 ·show (if j * 3+2=i * 3+1 then _ else if j * 3+2=i * 3 then _ else sh (j * 3+2)).length ≤ 3
  rw [if_neg (by omega),if_neg (by omega)];exact O.hl j hj
 ·refine (perm_pl hi ((pl i).drop n) (free ++ (pl i).take n) ?_).nodup_iff.2 O.nd
  rw [List.append_assoc,List.take_append_drop]
 ·intro x hx
  refine O.lt x ((perm_pl hi ((pl i).drop n) (free ++ (pl i).take n) ?_).mem_iff.1 hx)
  rw [List.append_assoc,List.take_append_drop]
 ·have h1:=O.sum
  have h2:=room_upd (a:=a) hi ((a.fl i).drop n)
  have h3:=O.pn i hi
  have h4:((a.fl i).drop n).kept.length=(a.fl i).kept.length - n:=by simp [Mod.Flow.drop]
  rw [h4] at h2
  rw [List.length_append,List.length_take]
  omega
end
end Go.Proofs.YtamafdcnbcoegabGreat
namespace Go.Proofs.YtamafdcnbcoegabGreat
open Go.RowKit
def AgIs (w x:World) (p:Nat) (a:Mod.Ag) (c:Av):Prop :=
 ∃ g free sh pl st,PaStep w x p g a.ticks a.welcome a.fenced free sh st c∧Sound st∧OnAg a st.opening g free sh pl
theorem AgIs.behind {w x y:World} {p:Nat} {a:Mod.Ag} {c:Av} (h:AgIs x y p a c) (hb:Below w.heap.size w x):AgIs w y p a c:=by
 obtain ⟨g,free,sh,pl,st,hk,hs,ho⟩:=h
 exact ⟨g,free,sh,pl,st,hk.behind hb,hs,ho⟩
theorem AgIs.below {w x y:World} {p:Nat} {a:Mod.Ag} {c:Av} (h:AgIs w x p a c) (hb:Below x.heap.size x y):AgIs w y p a c:=by
 obtain ⟨g,free,sh,pl,st,hk,hs,ho⟩:=h
 exact ⟨g,free,sh,pl,st,hk.below hb,hs,ho⟩
section
variable {w:World} {p:Nat} {g:Nat→Nat} {tk:Nat} {wel fen:Bool} {free:List Nat} {sh:Nat→List (Nat × Value)} {st:Mod.Stv} {c:Av} {a:Mod.Ag} {op:Nat} {go:Nat→Nat} {pl:Nat→List Nat}
theorem agIs_refl (H:PaAt w p g a.ticks a.welcome a.fenced free sh st c) (hs:Sound st) (O:OnAg a st.opening g free sh pl):AgIs w w p a c:=⟨g,free,sh,pl,st,paStep_refl H,hs,O⟩
theorem agEpoch_any (H:PaAt w p g tk wel fen free sh st c) :
  Calls Tryz.prog 52 #[ptrTo p] w fun r w' => r = .returned (.int .i64 st.opening)∧w' = w:=by
 have c0:w.cell? ⟨p,0,none⟩=some (ptrTo c.s):=by rw [blk_cell H.ks.blk,H.ks.a0]
 have HO:=hide (storeOpening_any H.stt)
 clear H
 unfold ptrTo at *
 go_enter Tryz.func52,Tryz.ntmps52
 go_wp2_with (go_at_call 84;refine (unhide HO).mono ?_;rintro r y ⟨rfl,rfl⟩)
 go_ret
 exact ⟨rfl,rfl⟩
theorem agLast_any (H:PaAt w p g tk wel fen free sh st c) (O:OnAg a op go free sh pl) {i:Nat} (hi:i < 3) (hg:g i=(a.fl i).base) :
  Calls Tryz.prog 79 #[ptrTo p,.int .i64 i] w fun r w' => r = .returned (.int .i64 ((a.fl i).base+(a.fl i).kept.length:Nat))∧∃ n,w' = w.drewN n:=by
 have hL:=lastA_any H.ks.blk (H.ks.an (i * 3) (by omega)) (H.ks.shs (i * 3) (by omega))
 rw [O.kp i hi,show 4+i * 3 * 2=4+i * 6 by omega] at hL
 have hm:=keptL_last (a.fl i).base (a.fl i).kept (pl i) (O.pn i hi)
 obtain ⟨m,fb,hm,hL⟩:∃ (m:Nat) (fb:Bool),max m (a.fl i).base=(a.fl i).base+(a.fl i).kept.length∧Calls Tryz.prog 122 #[.pointer (some ⟨p,4+i * 6,none⟩)] w fun e w' => e = .returned (.tuple #[.int .i64 m,.bool fb])∧∃ n,w' = w.drewN n:=by
  cases hq:(keptL (a.fl i).base (a.fl i).kept (pl i)).getLast? with
  | none => rw [hq] at hL hm;exact ⟨0,false,hm,hL⟩
  | some x => rw [hq] at hL hm;exact ⟨x.1,true,hm,hL⟩
 have cg:w.cell? ⟨p,1+i,none⟩=some (.int .i64 (g i)):=by rw [blk_cell H.ks.blk,H.ks.ag i hi]
 rw [hg] at cg
 obtain ⟨n,hn⟩:∃ n,n=(a.fl i).base+(a.fl i).kept.length:=⟨_,rfl⟩
 rw [← hn] at hm ⊢
 obtain ⟨b,hb⟩:∃ b,b=(a.fl i).base:=⟨_,rfl⟩
 rw [← hb] at hm cg
 have hmI:max (m:Int) (b:Int)=(n:Int):=by omega
 have HL:=hide hL
 have hi0:(0:Int) ≤ (i:Int):=by omega
 have hi3:(i:Int) < 3:=by omega
 clear H O hL hn hb hm hg
 unfold ptrTo
 go_enter Tryz.func79,Tryz.ntmps79
 go_wp2_with (go_at_call 122;refine (unhide HL).mono ?_;rintro r y ⟨rfl,q,rfl⟩)
 go_ret
 exact ⟨by first | rfl | simp [hmI],q,rfl⟩
set_option maxHeartbeats 1000000 in
theorem isDue_any (H:PaAt w p g tk wel fen free sh st c) (O:OnAg a op go free sh pl) {i:Nat} (hi:i < 3) (j:Nat) (hj:j < (a.fl i).kept.length) (tick t:Nat) (ht:(a.fl i).kept[j].2=t) (htk:t ≤ 1000000000000) (htm:tick ≤ 1000000000000) :
  Calls Tryz.prog 106 #[.pointer (some ⟨p,4+i * 6,none⟩),.int .i64 ((a.fl i).base+1+j:Nat),.int .i64 tick] w fun r w' => r = .returned (.bool (Mod.due (a.fl i) tick j t))∧Below w.heap.size w w':=by
 obtain ⟨n,hn⟩:∃ n,n=(a.fl i).base+1+j:=⟨_,rfl⟩
 have hH:=hasU_any H.ks.blk (H.ks.am (i * 3+2) (by omega)) (H.ks.shs (i * 3+2) (by omega)) (O.hu i hi) (n:Int)
 rw [O.hd i hi n,show 4+(i * 3+2) * 2=4+i * 6+4 by omega] at hH
 have hG:=fun y (hy:Below w.heap.size w y) => getI_any (H.below hy).ks.blk (H.ks.am (i * 3+1) (by omega)) ((H.below hy).ks.shs (i * 3+1) (by omega)) (O.si i hi) (n:Int)
 have hsn:sentF (a.fl i) n=if t=0 then none else some (recI t):=by
  unfold sentF
  rw [if_neg (by omega),show n - (a.fl i).base - 1=j by omega,List.getElem?_eq_getElem hj]
  simp only [ht]
 rw [O.sn i hi n,hsn,show 4+(i * 3+1) * 2=4+i * 6+2 by omega] at hG
 have hdue:Mod.due (a.fl i) tick j t=(!((a.fl i).held.contains n) && (t == 0 || decide (t+4 ≤ tick))):=by unfold Mod.due;rw [← hn]
 rw [hdue,← hn]
 obtain ⟨hc,hhc⟩:∃ hc,hc=(a.fl i).held.contains n:=⟨_,rfl⟩
 rw [← hhc] at hH ⊢
 have HH:=hide hH
 have HG:=fun y hy => hide (hG y hy)
 clear H O hH hG hsn hdue hhc ht hn
 cases hc
 ·by_cases h0:t=0
  ·simp only [h0,if_true,Option.getD_none,Option.isSome_none,zeroI] at HG
   go_enter Tryz.func106,Tryz.ntmps106
   go_wp2_with (first | (go_at_call 157;refine (unhide HH).mono ?_;rintro r y ⟨rfl,hy⟩) | (go_at_call 158;refine (unhide (HG _ hy)).mono ?_;rintro r z ⟨rfl,hyz⟩;obtain rfl:y=z:=hyz.symm))
   go_ret
   exact ⟨by simp [h0],hy⟩
  ·simp only [h0,if_false,Option.getD_some,Option.isSome_some,recI] at HG
   have hw:IntKind.i64.wrap ((tick:Int) - (t:Int))=(tick:Int) - (t:Int):=by rw [IntKind.wrap_i64];omega
   by_cases h4:t+4 ≤ tick
   ·have h4':(4:Int) ≤ (tick:Int) - (t:Int):=by omega
    go_enter Tryz.func106,Tryz.ntmps106
    go_wp2_with (first | (go_at_call 157;refine (unhide HH).mono ?_;rintro r y ⟨rfl,hy⟩) | (go_at_call 158;refine (unhide (HG _ hy)).mono ?_;rintro r z ⟨rfl,hyz⟩;obtain rfl:y=z:=hyz.symm))
    go_ret
    exact ⟨by simp [h4],hy⟩
   ·have h4':¬ (4:Int) ≤ (tick:Int) - (t:Int):=by omega
    go_enter Tryz.func106,Tryz.ntmps106
    go_wp2_with (first | (go_at_call 157;refine (unhide HH).mono ?_;rintro r y ⟨rfl,hy⟩) | (go_at_call 158;refine (unhide (HG _ hy)).mono ?_;rintro r z ⟨rfl,hyz⟩;obtain rfl:y=z:=hyz.symm))
    go_ret
    have hz:(t == 0)=false:=by simp [h0]
    exact ⟨by simp [h4,hz];omega,hy⟩
 ·go_enter Tryz.func106,Tryz.ntmps106
  go_wp2_with (go_at_call 157;refine (unhide HH).mono ?_;rintro r y ⟨rfl,hy⟩)
  go_ret
  exact ⟨by simp,hy⟩
theorem strClone_any (s:ByteArray) (w:World) (hs:s.size ≤ 1000):Calls Tryz.prog 82 #[.string s] w fun r w' => r = .returned (.string s)∧Below w.heap.size w w':=by
 have HC:=hide (Tryz.stringslite_Clone s w (by omega))
 go_enter Tryz.func82,Tryz.ntmps82
 go_wp2_with (go_at_call 127;refine (unhide HC).mono ?_;rintro r y ⟨rfl,hy⟩)
 go_ret
 exact ⟨rfl,hy⟩
end
end Go.Proofs.YtamafdcnbcoegabGreat
namespace Go.Proofs.YtamafdcnbcoegabGreat
open Go.RowKit
theorem RowO.init {w:World} {e:TypeId} {n g o cap:Nat} {xs:List Value} (h:RowO w e 1 (.slice (some ⟨g,o,none⟩) (n+1) cap) (n+1) xs):RowO w e 1 (.slice (some ⟨g,o,none⟩) n cap) n (xs.take n):=by
 obtain ⟨h1,⟨h2,_⟩ | ⟨g',o',cap',cur,h2,hh,hn,hc,hs,ht⟩⟩:=h
 ·cases h2
 ·injection h2 with h2 _ h3
  injection h2 with h2
  injection h2 with h2 h4
  subst h2 h3 h4
  refine ⟨by simp;omega,.inr ⟨g,o,cap,cur,rfl,hh,by omega,hc,hs,?_⟩⟩
  rw [← ht,List.take_take]
  congr 1
  omega
section
variable {w x y:World} {p:Nat} {g:Nat→Nat} {tk:Nat} {wel fen:Bool} {free:List Nat} {sh:Nat→List (Nat × Value)} {st st2:Mod.Stv} {c:Av} {a:Mod.Ag} {op:Nat} {pl:Nat→List Nat}
theorem paStep_store (H:PaAt w p g tk wel fen free sh st c) {uv':Value} (k1:StAt y c.s c.dp st2 c.dlv uv') (k2:Loc w c.duv uv') (k3:Far (StU c.s c.dp c.dlv c.duv) w y) (hl:st2.dk.bytes.length=1664):PaStep w y p g tk wel fen free sh st2 c:=by
 refine ⟨{ c with duv:=uv' },⟨H.ks.far k3 (fun k hk h => H.sep k hk h),k1,H.rl.far k3 (fun g hg h => (H.sepr g hg).2 h),hl⟩,k3.mono (fun k _ h => .inr (.inl h)),?_,rfl,rfl⟩
 have hwz:=k3.size
 rintro k (hk | (rfl | rfl | hk | hk) | hk)
 ·exact .inl (.inl hk)
 ·exact .inl (.inr (.inl (.inl rfl)))
 ·exact .inl (.inr (.inl (.inr (.inl rfl))))
 ·exact .inl (.inr (.inl (.inr (.inr (.inl hk)))))
 ·rcases k2 with h | h | ⟨g,h,hg⟩
  ·rw [h] at hk;cases hk
  ·exact .inl (.inr (.inl (.inr (.inr (.inr (by rw [← h];exact hk))))))
  ·rw [h] at hk;cases hk;exact .inr hg
 ·exact .inl (.inr (.inr hk))
theorem paAfter {z:World} {c1:Av} (F:Far (PaU p c) w z) (N:∀ k,PaU p c1 k→PaU p c k ∨ w.heap.size ≤ k) (t1:c1.s=c.s) (t2:c1.rv=c.rv) (h:PaStep z y p g tk wel fen free sh st c1):PaStep w y p g tk wel fen free sh st c:=by
 obtain ⟨c',h1,h2,h3,h4,h5⟩:=h
 refine ⟨c',h1,F.trans h2 (fun k hk hu => (N k hu).elim id (fun h => by omega)),fun k hk => ?_,h4.trans t1,h5.trans t2⟩
 rcases h3 k hk with h | h
 ·exact N k h
 ·exact .inr (Nat.le_trans F.size h)
theorem putRecord_len {st:Mod.Stv} (n i q:Nat) (b:List UInt8) (hb:b.length ≤ 20) (h:64 * (2+n)+64 ≤ st.dk.bytes.length):(st.putRecord n i q b).2.dk.bytes.length=st.dk.bytes.length:=by
 unfold Mod.Stv.putRecord Mod.Dk.put
 simp only
 split
 ·rfl
 ·split
  ·rfl
  ·simp only
   exact Mod.length_setSec (Mod.length_sealB _ _ (by rw [Mod.length_recIn];omega)) h
theorem putNumbers_len {st:Mod.Stv} (a b d:Nat) (hh:st.head ≤ 1) (h:128 ≤ st.dk.bytes.length):(st.putNumbers a b d).2.dk.bytes.length=st.dk.bytes.length:=by
 unfold Mod.Stv.putNumbers Mod.Dk.put
 simp only
 split
 ·rfl
 ·split
  ·rfl
  ·simp only
   exact Mod.length_setSec (Mod.length_sealB _ _ (by rw [Mod.length_headIn];omega)) (by omega)
theorem putNumbers_opening {st:Mod.Stv} (a b d:Nat):(st.putNumbers a b d).2.opening=st.opening:=rfl
set_option maxRecDepth 100000 in
set_option maxHeartbeats 2000000 in
theorem agSubmit_no (H:PaAt w p g a.ticks a.welcome a.fenced free sh st c) (hs:Sound st) (O:OnAg a st.opening g free sh pl) (i:Int) (s:ByteArray) (hr:a.refuses i s.size ≠ 0) :
  Calls Tryz.prog 50 #[ptrTo p,.int .i64 i,.string s] w fun r z => r = .returned (.int .i64 (a.refuses i s.size))∧z=w:=by
 have c0:w.cell? ⟨p,0,none⟩=some (ptrTo c.s):=by rw [blk_cell H.ks.blk,H.ks.a0]
 have hID:=storeIsDead_any H.stt
 rw [hs.1] at hID
 have HID:=hide hID
 obtain ⟨ad,cap,hfv,_⟩:=H.ks.fr.shape
 have c22:w.cell? ⟨p,22,none⟩=some (.slice ad free.length cap):=by rw [blk_cell H.ks.blk,H.ks.af,hfv]
 have hsum:=O.sum
 obtain ⟨m,hm⟩:∃ m,m=free.length:=⟨_,rfl⟩
 rw [← hm] at c22 hsum
 have HIS:=hide (isStream_any i w)
 obtain ⟨e,he⟩:∃ e,e=a.refuses i s.size:=⟨_,rfl⟩
 rw [← he]
 have hcase:(Wire.isStr i=false∧e=5) ∨ (Wire.isStr i=true∧20 < s.size∧e=6) ∨ (Wire.isStr i=true∧¬ 20 < s.size∧m=0∧e=7):=by
  unfold Mod.Ag.refuses at he hr
  by_cases h1:i < 0 ∨ 3 ≤ i
  ·rw [if_pos h1] at he
   refine .inl ⟨?_,he⟩
   cases hc:Wire.isStr i
   ·rfl
   ·simp [Wire.isStr] at hc;omega
  ·rw [if_neg h1] at he hr
   have hst:Wire.isStr i=true:=by simp [Wire.isStr];omega
   by_cases h2:20 < s.size
   ·rw [if_pos h2] at he
    exact .inr (.inl ⟨hst,h2,he⟩)
   ·rw [if_neg h2] at he hr
    by_cases h3:24 ≤ a.room
    ·rw [if_pos h3] at he
     exact .inr (.inr ⟨hst,h2,by omega,he⟩)
    ·rw [if_neg h3] at hr
     exact absurd rfl hr
 clear H hID hfv hm hr he O hsum
 unfold ptrTo at *
 rcases hcase with ⟨h1,rfl⟩ | ⟨h1,h2,rfl⟩ | ⟨h1,h2,rfl,rfl⟩
 ·rw [h1] at HIS
  go_enter Tryz.func50,Tryz.ntmps50
  go_wp2_with (first | (go_at_call 66;refine (unhide HID).mono ?_;rintro r y ⟨rfl,hyw⟩;obtain rfl:w=y:=hyw.symm) | (go_at_call 71;refine (unhide HIS).mono ?_;rintro r y ⟨rfl,hyw⟩;obtain rfl:w=y:=hyw.symm))
  go_ret
  exact ⟨rfl,rfl⟩
 ·rw [h1] at HIS
  have h2':(20:Int) < (s.size:Int):=by omega
  go_enter Tryz.func50,Tryz.ntmps50
  go_wp2_with (first | (go_at_call 66;refine (unhide HID).mono ?_;rintro r y ⟨rfl,hyw⟩;obtain rfl:w=y:=hyw.symm) | (go_at_call 71;refine (unhide HIS).mono ?_;rintro r y ⟨rfl,hyw⟩;obtain rfl:w=y:=hyw.symm))
  go_ret
  exact ⟨rfl,rfl⟩
 ·rw [h1] at HIS
  have h2':¬ (20:Int) < (s.size:Int):=by omega
  go_enter Tryz.func50,Tryz.ntmps50
  go_wp2_with (first | (go_at_call 66;refine (unhide HID).mono ?_;rintro r y ⟨rfl,hyw⟩;obtain rfl:w=y:=hyw.symm) | (go_at_call 71;refine (unhide HIS).mono ?_;rintro r y ⟨rfl,hyw⟩;obtain rfl:w=y:=hyw.symm))
  go_ret
  exact ⟨rfl,rfl⟩
set_option maxRecDepth 100000 in
set_option maxHeartbeats 4000000 in
theorem agSubmit_ok (H:PaAt w p g a.ticks a.welcome a.fenced free sh st c) (hs:Sound st) (O:OnAg a st.opening g free sh pl) {i:Nat} (hi:i < 3) (s:ByteArray) (hsz:s.size ≤ 20) (hroom:a.room < 24) (hsum:(a.fl i).base+(a.fl i).kept.length < 2147483647) :
  Calls Tryz.prog 50 #[ptrTo p,.int .i64 i,.string s] w fun r z => r = .returned (.int .i64 0)∧AgIs w z p (a.submit i s) c:=by
 have hne:free ≠ []:=fun h => by have:=O.sum;rw [h] at this;simp at this;omega
 obtain ⟨fr,q,rfl⟩:∃ fr q,free=fr ++ [q]:=by
  rcases List.eq_nil_or_concat free with h | ⟨l,x,h⟩
  ·exact absurd h hne
  ·exact ⟨l,x,by rw [h,List.concat_eq_append]⟩
 have hq:q < 24:=O.lt q (by simp)
 have c0:w.cell? ⟨p,0,none⟩=some (ptrTo c.s):=by rw [blk_cell H.ks.blk,H.ks.a0]
 have hID:=storeIsDead_any H.stt
 rw [hs.1] at hID
 have HID:=hide hID
 have hst:Wire.isStr (i:Int)=true:=by simp [Wire.isStr];omega
 have hIS:=isStream_any (i:Int) w
 rw [hst] at hIS
 have HIS:=hide hIS
 obtain ⟨ad,cap,hfv,_,_,hfc⟩:=H.ks.fr.shape
 have hlen:(fr ++ [q]).length=fr.length+1:=by simp
 rw [hlen] at hfv hfc
 obtain ⟨gf,of,rfl,hfc2⟩:=hfc (by omega)
 have c22:w.cell? ⟨p,22,none⟩=some (.slice (some ⟨gf,of,none⟩) (fr.length+1) cap):=by rw [blk_cell H.ks.blk,H.ks.af,hfv]
 have cq:w.cell? ⟨gf,of+fr.length,none⟩=some (.int .i64 q):=by
  rw [hfc2 fr.length (by omega)]
  simp [numCells]
 have hm24:fr.length+1 ≤ 24:=by have:=O.sum;simp at this;omega
 obtain ⟨m,hm⟩:∃ m,m=fr.length:=⟨_,rfl⟩
 rw [← hm] at c22 cq hm24 hfv
 have hwl:IntKind.i64.wrap (((m+1:Nat):Int) - 1)=(m:Int):=by rw [IntKind.wrap_i64];omega
 have hwl2:IntKind.i64.wrap ((m:Int)+1 - 1)=(m:Int):=by rw [IntKind.wrap_i64];omega
 have hwm:IntKind.i64.wrap (m:Int)=(m:Int):=by rw [IntKind.wrap_i64];omega
 have hm1:(0:Int) ≤ (m:Int):=by omega
 have hm2:(m:Int) < ((m+1:Nat):Int):=by omega
 have hm3:(m:Int) < (m:Int)+1:=by omega
 have hm0:(((m+1:Nat):Int) == 0)=false:=by simp;omega
 have hm0':((m:Int)+1 == 0)=false:=by simp;omega
 obtain ⟨bl,hbl⟩:∃ bl,bl=(a.fl i).base+(a.fl i).kept.length:=⟨_,rfl⟩
 have hLst:=fun n => agLast_any (H.below (below_drewN (Below.refl _ _) n)) O hi (O.bs i hi)
 rw [← hbl] at hLst hsum
 have HLst:=fun n => hide (hLst n)
 have hws:IntKind.i64.wrap ((bl:Int)+1)=((bl+1:Nat):Int):=by rw [IntKind.wrap_i64];omega
 obtain ⟨sq,hsq⟩:∃ sq,sq=bl+1:=⟨_,rfl⟩
 rw [← hsq] at hws
 obtain ⟨h0,hs2⟩:=sound_rec hs q i sq s.data.toList
 have hslen:s.data.toList.length=s.size:=by simp
 have hpr:=putRecord_len (st:=st) q i sq s.data.toList (by omega) (by rw [H.len];omega)
 rw [H.len] at hpr
 have hWR:=fun y (hy:Below w.heap.size w y) => writeRecord_any y c.s c.dp st c.dlv c.duv (H.below hy).stt q i sq s (by rw [H.len];omega) (by omega) (by omega) hsz
 have hop:(st.putRecord q i sq s.data.toList).2.opening=st.opening:=rfl
 obtain ⟨st2,hst2⟩:∃ st2,st2=(st.putRecord q i sq s.data.toList).2:=⟨_,rfl⟩
 rw [← hst2] at hs2 hpr hop
 rw [h0,← hst2] at hWR
 have HWR:=fun y hy => hide (hWR y hy)
 have h20:¬ (20:Int) < (s.size:Int):=by omega
 have hi0:(0:Int) ≤ (i:Int):=by omega
 have hi3:(i:Int) < 3:=by omega
 have HFACT:=hide (And.intro hs2 (And.intro hpr (And.intro hop (And.intro hm (And.intro hbl (And.intro hsq hfv))))))
 have HO:=hide O
 have HH:=hide H
 have hpl:=lt_of_block H.ks.blk
 have hSC:=fun y => hide (strClone_any s y (by omega))
 clear H O hID hIS hst hWR hs2 hpr hop hm hbl hsq hfv hLst h0 hst2 hfc hfc2 hslen hlen hne hs hroom hsum hsz
 unfold ptrTo at *
 go_enter Tryz.func50,Tryz.ntmps50
 go_upto_region 9 with (first | (go_at_call 66;refine (unhide HID).mono ?_;rintro r y ⟨rfl,hyw⟩;obtain rfl:w=y:=hyw.symm) | (go_at_call 71;refine (unhide HIS).mono ?_;rintro r y ⟨rfl,hyw⟩;obtain rfl:w=y:=hyw.symm))
 go_quiet (first | (go_at_call 79;exact Calls.quiet_of (unhide (HLst _))))
 go_upto_region 10 with fail
 refine wp_world (fun x => Below w.heap.size w x) (below_drewN (Below.refl _ _) _) ?_
 clear cq HID HIS HLst hws
 intro x hbx
 have d0:=(hbx.cell (p:=⟨p,0,none⟩) hpl).trans c0
 have HX:=hide hbx
 have hWX:=hide (unhide (HWR x hbx))
 clear hbx c0 c22 HWR
 go_upto_region 13 with (go_at_call 80;refine (unhide hWX).mono ?_;rintro r y ⟨rfl,uv',k1,k2,k3⟩)
 obtain ⟨hs2,hpr,hop,hm,hbl,hsq,hfv⟩:=unhide HFACT
 have hST:=paStep_store ((unhide HH).below (unhide HX)) k1 k2 k3 hpr
 have HST:=hide (hST.behind (unhide HX))
 refine wp_world (fun z => PaStep w z p g a.ticks a.welcome a.fenced (fr ++ [q]) sh st2 c) (unhide HST) ?_
 clear k1 k2 k3 hST HST d0 hWX hs2 hpr hop hm hbl hsq hfv
 rintro z ⟨c1,K1,F1,N1,t1,t2⟩
 obtain ⟨ad1,cap1,hfv1,hcap1,_,hfc1⟩:=K1.ks.fr.shape
 obtain ⟨gf1,of1,rfl,_⟩:=hfc1 (by simp)
 have hm:=(unhide HFACT).2.2.2.1
 have hlen1:(fr ++ [q]).length=m+1:=by simp [hm]
 rw [hlen1] at hfv1 hcap1
 have hmc:m ≤ cap1:=by omega
 have d22:z.cell? ⟨p,22,none⟩=some (.slice (some ⟨gf1,of1,none⟩) (m+1) cap1):=by rw [blk_cell K1.ks.blk,K1.ks.af,hfv1]
 have df:z.frozen? ⟨p,22,none⟩=false:=blk_free (i:=22) K1.ks.blk
 have hpz:=lt_of_block K1.ks.blk
 have hrow:RowO z 3 1 (.slice (some ⟨gf1,of1,none⟩) m cap1) fr.length (numCells fr):=by
  have h:=K1.ks.fr
  rw [hlen1,hfv1] at h
  have h2:=h.init
  rw [← hm]
  have:(numCells (fr ++ [q])).take m=numCells fr:=by rw [hm];simp [numCells]
  rw [this] at h2
  exact h2
 have HSTEP:=fun z2 (hz:Below z.heap.size z z2) => hide (paAfter (F1.trans (far_below (E:=fun _ => False) hz) (fun _ _ h => h.elim)) N1 t1 t2 (paStep_free (free2:=fr) (x:=z2) (v:=.slice (some ⟨gf1,of1,none⟩) m cap1) (K1.below hz) (Far.refl _ _) (by rw [hm];rw [hm] at hrow;exact hrow.far (far_below (E:=fun _ => False) hz) (fun _ _ h => h)) (.inr (.inl (by rw [hfv1];rfl)))))
 clear K1 F1 N1 t1 t2 hfc1 hrow hfv1 hlen1 hm
 refine wp_region_last (by kernel_rfl)
  [fun v _ => v = .pointer (some ⟨p,0,none⟩),fun v _ => v = .pointer (some ⟨p,0,none⟩),fun v _ => v = .pointer (some ⟨p,0,none⟩),fun v _ => v = .pointer (some ⟨p,22,none⟩),fun v _ => v = .slice (some ⟨gf1,of1,none⟩) (m+1) cap1,fun v _ => v = .pointer (some ⟨p,0,none⟩),fun v _ => v = .pointer (some ⟨p,0,none⟩),fun v _ => v = .pointer (some ⟨p,22,none⟩),fun v _ => v = .slice (some ⟨gf1,of1,none⟩) (m+1) cap1,
   fun v _ => v = .int .i64 ((m+1:Nat):Int),fun v _ => v = .int .i64 m,fun v _ => v = .slice (some ⟨gf1,of1,none⟩) m cap1,fun v _ => v = .pointer (some ⟨p,0,none⟩),fun v _ => v = .pointer (some ⟨p,22,none⟩),fun _ _ => True]
  [[(0,none)],[(0,none)],[(61,some 1)],[(62,some 2)],[(63,some 3)],[(0,none)],[(65,some 5)],[(66,some 6)],[(67,some 7)],[(68,some 8)],[(69,some 9)],[(64,some 4),(70,some 10)],[(60,some 0)],[(72,some 12)],[(73,some 13),(71,some 11)]] [some 60,some 61,some 62,some 63,some 64,some 65,some 66,some 67,some 68,some 69,some 70,some 71,some 72,some 73,none] [false,false,false,false,false,false,false,false,false,false,false,false,false,false,false,false,false,false,false,false,false,false,false,false,false,false,false,false,false,false,false,false,false,false,false,false,false,false,false,false,false,false,false,false,false,false,false,false,false,false,false,false,false,false,false,false,false,false,false,false,true,true,true,true,true,true,true,true,true,true,true,true,true,true,false,false,false,false,false,false,false,false,false,false,false,false]
  14 _ rfl rfl (by kernel_rfl) (by kernel_rfl) (by kernel_rfl) (by kernel_rfl) (by kernel_rfl) (by kernel_rfl) ?_ ?_ ?_
 ·repeat' (first | exact stable_eq _ | exact stable_true | exact trivial | apply And.intro)
 ·refine ⟨?_,?_,?_,?_,?_,?_,?_,?_,?_,?_,?_,?_,?_,?_,trivial⟩
  all_goals
   intro a' y hb hf
   have e22:=(hb.cell (p:=⟨p,22,none⟩) hpz).trans d22
   clear hb HSTEP
   simp only [PlanFacts,List.getD_cons_zero,List.getD_cons_succ,Array.getD_eq_getD_getElem?] at hf
   try simp at hf
   go_simp
   try exact ⟨_,rfl,Below.refl _ _,rfl⟩
   try exact Below.refl _ _
   try exact ⟨Below.refl _ _,by simp⟩
 ·intro f y hby hwd
  simp only [AllWords,List.take] at hwd
  have g11:=hwd.2.2.2.2.2.2.2.2.2.2.2.1
  have g13:=hwd.2.2.2.2.2.2.2.2.2.2.2.2.2.1
  clear hwd
  have HSY:=hide (unhide (HSTEP y hby))
  have e22:=(hby.cell (p:=⟨p,22,none⟩) hpz).trans d22
  have ef:y.frozen? ⟨p,22,none⟩=false:=(hby.frozen (p:=⟨p,22,none⟩) hpz).trans df
  clear hby HSTEP d22 df
  simp only [mergeT,g11,g13]
  generalize f 60=x60
  generalize f 61=x61
  generalize f 62=x62
  generalize f 63=x63
  generalize f 64=x64
  generalize f 65=x65
  generalize f 66=x66
  generalize f 67=x67
  generalize f 68=x68
  generalize f 69=x69
  generalize f 70=x70
  generalize f 72=x72
  go_simp
  go_upto_region 14 with fail
  refine wp_world (fun z => PaStep w z p g a.ticks a.welcome a.fenced fr sh st2 c) (unhide HSY) ?_
  clear HSY e22 ef
  rintro z3 ⟨c3,K3,F3,N3,t1,t2⟩
  have hkl:=(unhide HO).small hi
  have hshl:(sh (i * 3)).length < 1000:=by rw [(unhide HO).kp i hi,keptL_length _ _ _ ((unhide HO).pn i hi)];omega
  have hPut:=fun y (hy:Below z3.heap.size z3 y) => putA_any ((K3.below hy).shAt (i:=i * 3) (by omega)) hshl sq s q
  simp only [recA,show 4+i * 3 * 2=4+i * 6 by omega] at hPut
  have HPUT:=fun y hy => hide (hPut y hy)
  have HK3:=hide (And.intro K3 (And.intro F3 (And.intro N3 (And.intro t1 t2))))
  clear K3 F3 N3 t1 t2 hPut hkl hshl
  refine wp_region_last (by kernel_rfl)
   [fun v _ => v = .pointer (some ⟨p,0,none⟩),fun v _ => v = .int .i64 i,fun v _ => v = .pointer (some ⟨p,0,none⟩),fun v _ => v = .pointer (some ⟨p,4,none⟩),fun v _ => v = .pointer (some ⟨p,4+i * 6,none⟩),fun v _ => v = .pointer (some ⟨p,4+i * 6,none⟩),fun v _ => v = .int .i64 sq,fun v _ => v = .string s,fun v _ => v = .string s,fun v _ => v = .int .i64 q,fun v _ => v = .agg #[.string s,.int .i64 q],fun _ _ => True]
   [[(0,none)],[(1,none)],[(74,some 0)],[(76,some 2)],[(77,some 3),(75,some 1)],[(78,some 4)],[(7,none)],[(2,none)],[(81,some 7)],[(8,none)],[(82,some 8),(83,some 9)],[(79,some 5),(80,some 6),(84,some 10)]] [some 74,some 75,some 76,some 77,some 78,some 79,some 80,some 81,some 82,some 83,some 84,some 85] [false,false,false,false,false,false,false,false,false,false,false,false,false,false,false,false,false,false,false,false,false,false,false,false,false,false,false,false,false,false,false,false,false,false,false,false,false,false,false,false,false,false,false,false,false,false,false,false,false,false,false,false,false,false,false,false,false,false,false,false,false,false,false,false,false,false,false,false,false,false,false,false,false,false,true,true,true,true,true,true,true,true,true,true,true,true]
   11 _ rfl rfl (by kernel_rfl) (by kernel_rfl) (by kernel_rfl) (by kernel_rfl) (by kernel_rfl) (by kernel_rfl) ?_ ?_ ?_
  ·repeat' (first | exact stable_eq _ | exact stable_true | exact trivial | apply And.intro)
  ·refine ⟨?_,?_,?_,?_,?_,?_,?_,?_,?_,?_,?_,trivial⟩
   all_goals
    intro a' y hb hf
    clear hb HPUT
    simp only [PlanFacts,List.getD_cons_zero,List.getD_cons_succ,Array.getD_eq_getD_getElem?] at hf
    try simp at hf
    go_simp
    try exact ⟨_,rfl,Below.refl _ _,rfl⟩
    try exact Below.refl _ _
    try exact ⟨Below.refl _ _,by simp⟩
   all_goals first
    | (refine (unhide (hSC _)).mono ?_;rintro r z ⟨rfl,hb⟩;exact ⟨rfl,hb⟩)
    | (refine (unhide (hSC _)).mono ?_;rintro r z ⟨rfl,hb⟩;exact ⟨_,rfl,hb,rfl⟩)
    | skip
  ·intro f2 y hby hwd
   simp only [AllWords,List.take] at hwd
   have g5:=hwd.2.2.2.2.2.1
   have g6:=hwd.2.2.2.2.2.2.1
   have g10:=hwd.2.2.2.2.2.2.2.2.2.2.1
   clear hwd
   have HP:=hide (unhide (HPUT y hby))
   have HBY:=hide hby
   clear hby HPUT
   simp only [mergeT,g5,g6,g10]
   generalize f2 74=y74
   generalize f2 75=y75
   generalize f2 76=y76
   generalize f2 77=y77
   generalize f2 78=y78
   generalize f2 81=y81
   generalize f2 82=y82
   generalize f2 83=y83
   go_simp
   refine (unhide HP).mono ?_
   rintro r u ⟨rfl,hst⟩
   have HST:=hide hst
   clear hst
   go_wp2
   go_ret
   refine ⟨rfl,?_⟩
   obtain ⟨hs2,hpr,hop,hm,hbl,hsq,hfv⟩:=unhide HFACT
   obtain ⟨K3,F3,N3,t1,t2⟩:=unhide HK3
   have hst:=unhide HST
   have hst3:ShStep y u p (4+i * 3 * 2) 116 c3.arr (c3.nv (i * 3)) (c3.mv (i * 3)) (putL (sh (i * 3)) sq (recA s q)):=by rw [show 4+i * 3 * 2=4+i * 6 by omega];exact hst
   have h1:=paAfter F3 N3 t1 t2 ((paStep_sh (K3.below (unhide HBY)) (by omega) hst3).behind (unhide HBY))
   have hON:=onAg_submit (unhide HO) hi s
   rw [← hbl,← hsq,← hop] at hON
   exact ⟨g,fr,_,_,st2,h1,hs2,hON⟩
end
end Go.Proofs.YtamafdcnbcoegabGreat
namespace Go.Proofs.YtamafdcnbcoegabGreat
open Go.RowKit
theorem size1:(Tryz.prog.info? 3).map (·.size)=some 1:=by kernel_rfl
theorem eq_ints (S T:List Int) (w:World):∀ (is:List Nat),(∀ i ∈ is,i < S.length∧i < T.length) →
  (Op.eqItems 9999 3 1 (S.map (Value.int .i64)).toArray (T.map (Value.int .i64)).toArray is).run Tryz.prog w = .ok (is.all fun i => S.getD i 0 == T.getD i 0) w
 | [],_ => by simp [Op.eqItems]
 | i :: is,h => by
  have h0:=h i (.head _)
  have b1:(S.map (Value.int .i64)).toArray[i]? = some (.int .i64 (S.getD i 0)):=by simp [h0.1,List.getD_eq_getElem?_getD]
  have b2:(T.map (Value.int .i64)).toArray[i]? = some (.int .i64 (T.getD i 0)):=by simp [h0.2,List.getD_eq_getElem?_getD]
  have p1:=run_part_plain (P:=Tryz.prog) w (e:=3) (by kernel_rfl) (off:=i) b1
  have p2:=run_part_plain (P:=Tryz.prog) w (e:=3) (by kernel_rfl) (off:=i) b2
  have p3:=run_equalIn_int (P:=Tryz.prog) w 9998 3 .i64 .i64 (S.getD i 0) (T.getD i 0) Tryz.underlying3
  have ih:=eq_ints S T w is (fun j hj => h j (.tail _ hj))
  simp only [Op.eqItems,Nat.mul_one,Sem.run_bind,p1,p2,p3,Result.andThen_ok,List.all_cons]
  cases hc:(S.getD i 0 == T.getD i 0)
  ·simp
  ·simpa using ih
theorem eq_nums (a b c d e f:Int) (w:World):(Op.equalIn 10000 100 (.agg #[.int .i64 a,.int .i64 b,.int .i64 c]) (.agg #[.int .i64 d,.int .i64 e,.int .i64 f])).run Tryz.prog w = .ok (a == d && (b == e && c == f)) w:=by
 obtain ⟨i,hi⟩:∃ i,Tryz.prog.info? 3=some i:=by
  have:=size1
  cases h:Tryz.prog.info? 3 with
  | none => rw [h] at this;cases this
  | some i => exact ⟨i,rfl⟩
 have hz:Tryz.prog.cellsOf 3=1:=by kernel_rfl
 have e:=eq_ints [a,b,c] [d,e,f] w (List.range 3) (fun i hi => by have:=List.mem_range.1 hi;simp;omega)
 rw [← hz] at e
 refine (run_equalIn_array (P:=Tryz.prog) w 9999 #[.int .i64 a,.int .i64 b,.int .i64 c] _ Tryz.underlying100 hi).trans (e.trans ?_)
 simp [List.range_succ]
def OneI (B:Nat) (n:Nat) (v:Value) (w:World):Prop:=∃ g,v = .slice (some ⟨g,0,none⟩) 1 1∧B ≤ g∧w.heap[g]? = some (.cells #[.int .i64 n] 3 (0,0))
theorem stable_oneI (B n:Nat):Stable (OneI B n):=fun _ _ _ h hb => by
 obtain ⟨g,e,h1,h2⟩:=h
 exact ⟨g,e,h1,(hb.block g (lt_of_block h2)).trans h2⟩
theorem stableF_oneI {B n:Nat} {E:Nat→Prop} (hE:∀ k,E k→k < B):StableF E (OneI B n):=fun _ _ _ h hF => by
 obtain ⟨g,e,h1,h2⟩:=h
 exact ⟨g,e,h1,hF.blk h2 (fun e => by have:=hE _ e;omega)⟩
def RowI (w0:World) (fv:Value) (l:List Nat) (v:Value) (w:World):Prop:=RowO w 3 1 v l.length (numCells l)∧Loc w0 fv v∧w0.heap.size ≤ w.heap.size
theorem stable_rowI (w0:World) (fv:Value) (l:List Nat):Stable (RowI w0 fv l):=fun _ _ _ h hb =>
 ⟨h.1.keep (fun g hg => hb.block g (h.1.lt g hg)),h.2.1,Nat.le_trans h.2.2 hb.size⟩
theorem stableF_rowI {w0:World} {fv:Value} {l:List Nat} {E:Nat→Prop} (hE:∀ k,E k→k < w0.heap.size∧fv.ownBlock ≠ some k):StableF E (RowI w0 fv l):=fun _ _ _ h hF =>
 ⟨h.1.far hF (fun g hg e => by
  obtain ⟨h1,h2⟩:=hE g e
  rcases h.2.1 with h3 | h3 | ⟨k,h3,h4⟩
  ·rw [h3] at hg;cases hg
  ·rw [h3] at hg;exact h2 hg
  ·rw [h3] at hg;cases hg;omega),h.2.1,Nat.le_trans h.2.2 hF.size⟩
def agD (a:Mod.Ag) (n:Nat→Nat) (j:Nat):Mod.Ag:={ a with fl:=Mod.dropTo a.fl n j }
theorem agD_zero (a:Mod.Ag) (n:Nat→Nat):agD a n 0=a:=by unfold agD;rw [Mod.dropTo_zero]
theorem agD_self (a:Mod.Ag) (n:Nat→Nat) (j:Nat):(agD a n j).fl j=a.fl j:=Mod.dropTo_self _ _ _
theorem agD_succ (a:Mod.Ag) (n:Nat→Nat) (j:Nat):agD a n (j+1) = { agD a n j with fl:=Mod.upd (agD a n j).fl j (((agD a n j).fl j).drop (n j)) }:=by
 unfold agD
 simp only [Mod.dropTo_succ,Mod.dropTo_self]
theorem agD_three (a:Mod.Ag) (n:Nat→Nat):agD a n 3=a.drop n:=rfl
theorem drop_none {a:Mod.Ag} {n:Nat→Nat} (h:∀ i,i < 3→n i=0):a.drop n=a:=by
 unfold Mod.Ag.drop
 have:Mod.dropTo a.fl n 3=a.fl:=by
  funext t
  unfold Mod.dropTo
  split
  ·rename_i ht
   rw [h t ht]
   simp [Mod.Flow.drop]
  ·rfl
 rw [this]
theorem flat_keptL:∀ (b:Nat) (k:List (ByteArray × Nat)) (p:List Nat) (t:Nat),p.length=k.length→(ht:t < k.length)→(flat (keptL b k p))[t * 2]? = some (.string k[t].1)∧(flat (keptL b k p))[t * 2+1]? = some (.int .i64 (p.getD t 0:Nat))
 | b,[],_,t,_,ht => by simp at ht
 | b,_ :: _,[],t,h,_ => by simp at h
 | b,x :: r,q :: qs,0,_,_ => by
  rw [keptL_cons]
  exact ⟨rfl,rfl⟩
 | b,x :: r,q :: qs,t+1,h,ht => by
  have ih:=flat_keptL (b+1) r qs t (by simpa using h) (by simpa using ht)
  rw [keptL_cons]
  have hf:flat ((b+1,recA x.1 q) :: keptL (b+1) r qs) = [.string x.1,.int .i64 q] ++ flat (keptL (b+1) r qs):=rfl
  rw [hf,show (t+1) * 2=t * 2+2 by omega,show t * 2+2+1=t * 2+1+2 by omega,List.getElem?_append_right (by simp),List.getElem?_append_right (by simp)]
  simpa using ih
theorem keptL_take:∀ (n b:Nat) (k:List (ByteArray × Nat)) (p:List Nat),(keptL b k p).take n=keptL b (k.take n) (p.take n)
 | 0,b,k,p => by cases k <;> cases p <;> rfl
 | n+1,b,[],p => by cases p <;> rfl
 | n+1,b,x :: r,[] => rfl
 | n+1,b,x :: r,q :: qs => by
  rw [keptL_cons,List.take_succ_cons,List.take_succ_cons,List.take_succ_cons,keptL_cons,keptL_take n (b+1) r qs]
theorem shTook_below {w x y:World} {p o:Nat} {t:TypeId} {arr:Array Value} {nv mv:Value} {l:List (Nat × Value)} (h:ShTook w x p o t arr nv mv l) (hb:Below x.heap.size x y):ShTook w y p o t arr nv mv l:=by
 obtain ⟨⟨nv',S,e⟩,hF⟩:=h
 exact ⟨⟨nv',⟨(hb.block _ (lt_of_block S.blk)).trans S.blk,S.c0,S.c1,S.sh.far (far_below (E:=fun _ => False) hb) (fun _ _ h => h),S.ty⟩,e⟩,hF.trans (far_below hb) (fun _ _ h => h)⟩
end Go.Proofs.YtamafdcnbcoegabGreat
namespace Go.Proofs.YtamafdcnbcoegabGreat
open Go.RowKit
theorem LdAt.behind {w x y:World} {p e s:Nat} {logs:Nat→List ByteArray} (h:LdAt x y p e s logs) (hb:Below w.heap.size w x):LdAt w y p e s logs:=by
 obtain ⟨arr,lv,h1,h2,h3⟩:=h
 exact ⟨arr,lv,h1,(far_below (E:=fun k => k=p) hb).trans h2 (fun _ _ h => h),fun i hi g hg => Nat.le_trans hb.size (h3 i hi g hg)⟩
def newStv (L:List UInt8) (h:Mod.Hd) (at':Nat):Mod.Stv:=⟨h.o+1,1,1 - at',⟨Mod.openL L h at',0,false⟩⟩
theorem newStv_eq (L:List UInt8) (h:Mod.Hd) (at':Nat):((⟨h.o+1,0,at',⟨L,0,false⟩⟩:Mod.Stv).putNumbers h.a h.b h.d).2=newStv L h at':=by
 unfold Mod.Stv.putNumbers Mod.Dk.put newStv Mod.openL Mod.sealH
 simp [Mod.Stv.next]
theorem rs_fits {L:List UInt8} {last n:Nat} {rs:List Mod.Rc} (h:Mod.recsFrom L last 0 n=some rs):∀ r ∈ rs,r=Mod.rc0 ∨ r.fits:=by
 intro r hr
 obtain ⟨h1,h2⟩:=Mod.recsFrom_some n 0 h
 obtain ⟨x,hx,e⟩:=List.mem_iff_getElem.1 hr
 obtain ⟨k1,k2⟩:=h2 x (by omega)
 rw [List.getElem?_eq_getElem hx,e] at k2
 cases k2
 rcases Mod.recAt_ok k1 with ⟨_,e0⟩ | ⟨_,_,_,_,_,_,hf,_⟩
 ·exact .inl e0
 ·exact .inr hf
theorem pkAt_ld {w x:World} {p e s dp:Nat} {logs:Nat→List ByteArray} {dlv duv rv:Value} {st:Mod.Stv} (h:LdAt w x p e s logs) (hs:StAt x s dp st dlv duv) (hl:st.dk.bytes.length=7808) (hn:∀ k,StU s dp dlv duv k→k ≠ p)
  {y:World} (hy:y=x.setCell ⟨p,11,none⟩ rv) {R:Obj} (hr:RowO (y.alloc R) 130 2 rv 2 (rulesOf p)) :
  ∃ c,PkAt (y.alloc R) p e logs (fun _ => []) st c∧(∀ k,PkU p c k→k=p ∨ w.heap.size ≤ k ∨ StU s dp dlv duv k ∨ rv.ownBlock=some k):=by
 obtain ⟨arr,lv,K,F,N⟩:=h
 subst hy
 have hset:=far_set x p 11 rv
 have hba:Below (x.setCell ⟨p,11,none⟩ rv).heap.size (x.setCell ⟨p,11,none⟩ rv) ((x.setCell ⟨p,11,none⟩ rv).alloc R):=(Below.refl _ _).alloc (Nat.le_refl _) _
 have hF2:Far (fun k => k=p) x ((x.setCell ⟨p,11,none⟩ rv).alloc R):=hset.trans (far_below (E:=fun _ => False) hba) (fun _ _ h => h.elim)
 have hget:∀ j,j ≠ 11→(arr.setIfInBounds 11 rv)[j]? = arr[j]?:=fun j hj => Array.getElem?_setIfInBounds_ne (fun e => hj e.symm)
 refine ⟨⟨arr.setIfInBounds 11 rv,s,dp,lv,fun _ => .slice none 0 0,fun _ => .map none,rv,dlv,duv⟩,⟨⟨?_,by simpa using K.sz,?_,?_,?_,?_,?_,?_,?_,fun i hi => shelfIs_nil _,K.are,K.apl,K.aps,K.cnt,K.ep⟩,?_,hr,hl⟩,?_⟩
 ·exact (hba.block p (by simp;exact lt_of_block K.blk)).trans (blk_set K.blk)
 ·rw [hget _ (by omega)];exact K.a0
 ·rw [hget _ (by omega)];exact K.a1
 ·intro i hi;rw [hget _ (by omega)];exact K.al i hi
 ·intro i hi;rw [hget _ (by omega)];exact K.an i hi
 ·intro i hi;rw [hget _ (by omega)];exact K.am i hi
 ·have:=K.sz
  simp [this]
 ·intro i hi
  exact (K.lgs i hi).far hF2 (fun g hg e => (K.lgs i hi).ne K.blk (by decide) (by rw [hg,e]))
 ·exact hs.far hF2 (fun k hk e => hn k hk e)
 ·rintro k ((h | ⟨i,hi,h⟩ | ⟨i,hi,h⟩) | h | h)
  ·exact .inl h
  ·exact .inr (.inl (N i hi k h))
  ·rcases h with h | h <;> cases h
  ·exact .inr (.inr (.inl h))
  ·exact .inr (.inr (.inr h))
end Go.Proofs.YtamafdcnbcoegabGreat
namespace Go.Proofs.YtamafdcnbcoegabGreat
open Go.RowKit
set_option maxHeartbeats 400000 in
theorem sinkOpen_len (w:World) (v:Value) (L:List UInt8) (hat:BytesAt w v L) (hL:L.length ≠ 7808) :
  Calls Tryz.prog 53 #[v] w fun r w' => r = .returned (.tuple #[.pointer none,.int .i64 2])∧w' = w:=by
 obtain ⟨ad,cap,rfl,hl1,hl2,_⟩:=hat
 obtain ⟨n,hn⟩:∃ n,n=L.length:=⟨_,rfl⟩
 rw [← hn] at hL hl1 hl2 ⊢
 have h1:((n:Int) != 7808)=true:=by simp;omega
 clear hn
 go_enter Tryz.func53,Tryz.ntmps53
 go_wp2
 go_ret2
 exact ⟨rfl,rfl⟩
set_option maxHeartbeats 1000000 in
theorem sinkOpen_bad (w:World) (v:Value) (L:List UInt8) (hat:BytesAt w v L) (hL:L.length=7808) (ho:Mod.openSt L=none) :
  Calls Tryz.prog 53 #[v] w fun r w' => r = .returned (.tuple #[.pointer none,.int .i64 2])∧Below w.heap.size w w':=by
 have hSO:=hide (storeOpen_no w v L 122 hat (by omega) (by omega) (by omega) ho)
 obtain ⟨ad,cap,rfl,hl1,hl2,_⟩:=hat
 obtain ⟨n,hn⟩:∃ n,n=L.length:=⟨_,rfl⟩
 rw [← hn] at hL hl1 hl2 hSO ⊢
 subst hL
 clear hn ho
 go_enter Tryz.func53,Tryz.ntmps53
 go_wp2_with (go_at_call 74;refine (unhide hSO).mono ?_;rintro r y ⟨rfl,hb⟩;replace hb:=hide hb)
 go_ret2
 exact ⟨rfl,(unhide hb).alloc (unhide hb).size _⟩
set_option maxRecDepth 100000 in
set_option maxHeartbeats 8000000 in
theorem sinkOpen_some (w:World) (v:Value) (L:List UInt8) (hat:BytesAt w v L) (hL:L.length=7808) {h:Mod.Hd} {at':Nat} {rs:List Mod.Rc} (ho:Mod.openSt L=some (h,at',rs)) :
  Calls Tryz.prog 53 #[v] w fun r w' => (¬ (h.b=0∧h.d=0) ∨ Mod.skLd rs 0 (fun _ => [])=none)∧r = .returned (.tuple #[.pointer none,.int .i64 2])∧Below w.heap.size w w' ∨
   h.b=0∧h.d=0∧∃ logs p c,Mod.skLd rs 0 (fun _ => [])=some logs∧r = .returned (.tuple #[ptrTo p,.int .i64 0])∧PkAt w' p h.a logs (fun _ => []) (newStv L h at') c∧Below w.heap.size w w' ∧ ∀ k,PkU p c k→w.heap.size ≤ k:=by
 have hSO:=storeOpen_yes w v L 122 hat (by omega) (by omega) (by omega) ho
 rw [newStv_eq] at hSO
 obtain ⟨hne,hrf⟩:=Mod.openSt_some ho
 have hfit:=rs_fits hrf
 have hrl:rs.length=120:=by
  have:=(Mod.recsFrom_some _ _ hrf).1
  rw [this,hL]
 obtain ⟨_,hok,hhd,_⟩:=Mod.newest_some hne
 have hsm:=Mod.headIs_small hok
 rw [← hhd] at hsm
 have hlen:(newStv L h at').dk.bytes.length=7808:=by
  have:=(Mod.opened_ok hne (m:=122) (by omega) (by omega)).len
  exact this
 obtain ⟨ad,cap,rfl,hl1,hl2,_⟩:=hat
 obtain ⟨n,hn⟩:∃ n,n=L.length:=⟨_,rfl⟩
 rw [← hn] at hL hl1 hl2 hSO ⊢
 subst hL
 generalize newStv L h at' = st at *
 obtain ⟨ep,hep⟩:∃ ep,ep=h.a:=⟨_,rfl⟩
 obtain ⟨nb,hnb⟩:∃ nb,nb=h.b:=⟨_,rfl⟩
 obtain ⟨nd,hnd⟩:∃ nd,nd=h.d:=⟨_,rfl⟩
 rw [← hep,← hnb,← hnd] at hSO
 rw [← hep,← hnb,← hnd]
 have hep2:ep ≤ 2147483647:=by omega
 have HSO:=hide hSO
 have HH:=hide (And.intro hfit (And.intro hrl (And.intro hlen hep2)))
 have hNO:=fun y => hide (numbersOf_any ep y)
 clear hn ho hne hrf hok hhd hsm hSO hfit hrl hlen hep hnb hnd hep2
 obtain ⟨res,hres⟩:∃ res,res=Mod.skLd rs 0 (fun _ => []):=⟨_,rfl⟩
 rw [← hres]
 unfold ptrTo at *
 go_enter Tryz.func53,Tryz.ntmps53
 go_upto_region 7 with (go_at_call 74;refine (unhide HSO).mono ?_;rintro r y ⟨s,dp,lv,uv,rv,rfl,hST,hSU,hrow,hb⟩;obtain ⟨ra,rc,rfl,_,_,hra⟩:=(RowO.of_own (ownsRow_monoB hrow (Nat.zero_le _))).shape)
 obtain ⟨gr,og,rfl,_⟩:=hra (by omega)
 have hog:og=0:=by
  rcases hrow with ⟨_,⟨h,_⟩ | ⟨g',cap',cur',h,_⟩⟩
  ·cases h
  ·injection h with h;injection h with h;injection h
 subst hog
 clear hra
 obtain ⟨g5,hg5⟩:∃ g5,g5=y.heap.size:=⟨_,rfl⟩
 have HG5:=hide hg5
 rw [← hg5]
 have hgw:w.heap.size ≤ g5:=by have:=hb.size;omega
 clear hg5
 refine wp_world (fun x => x.heap[g5]? = some (.cells #[.int .i64 ep,.int .i64 nb,.int .i64 nd,.slice (some ⟨gr,0,none⟩) 120 rc] 143 (0,0))∧x.heap[g5+1]? = some (.cells (newArrE s ep (.slice none 0 0)) 125 (0,0))∧Below g5 y x) ?_ ?_
 ·rw [unhide HG5]
  exact alloc2 _ _ _
 rintro x ⟨h5,h6,hbx⟩
 have hxx:=lt_of_block h6
 have hrx:=ownsRow_keepB (ownsRow_monoB hrow (Nat.zero_le _)) (fun g hg => by have:=(World.ownsRow.lt hrow g hg).2;exact hbx.block g (by rw [unhide HG5];exact this))
 have hrg:(Value.slice (some ⟨gr,0,none⟩) 120 rc).ownBlock ≠ some (g5+1):=fun e => (RowO.of_own hrx).ne h6 (by decide) e
 have hSTx:=hide (hST.far (far_below (E:=fun _ => False) (by rw [← unhide HG5];exact hbx)) (fun _ _ h => h))
 have HSU:=hide hSU
 have HB:=hide (hb.trans (hbx.mono hgw))
 have H5:=hide h5
 have H6:=hide h6
 have HRX:=hide hrx
 clear hST hSU hrow hrx hb hbx h5 h6 HG5
 have hnS:¬ StU s dp lv uv (g5+1):=by
  rintro (h | h)
  ·have h1:=(unhide hSTx).blk
   rw [← h,unhide H6] at h1
   injection h1 with h1
   injection h1 with _ h1 _
   exact absurd h1 (by decide)
  ·exact dk_ne (unhide hSTx).dk (unhide H6) (by decide) (by decide) (by decide) h
 by_cases hbd:nb=0∧nd=0
 ·have heq:∀ z:World,(Op.equalIn 10000 100 (.agg #[.int .i64 ep,.int .i64 nb,.int .i64 nd]) (.agg #[.int .i64 ep,.int .i64 0,.int .i64 0])).run Tryz.prog z = .ok true z:=fun z => by
   rw [eq_nums]
   simp [hbd.1,hbd.2]
  have HBD:=hide hbd
  clear hbd
  have hLD:=fun (z:World) (h1:z.heap[g5+1]? = _) (h2:z.ownsRow 0 150 3 (.slice (some ⟨gr,0,none⟩) 120 rc) 120 (rcRow rs)) => hide (sinkLoad_any (p:=g5+1) (e:=ep) (s:=s) h1 h2 (unhide HH).2.1 (by omega) (unhide HH).1 (unhide HH).2.2.2)
  rw [← hres] at hLD
  have HRES:=hide hres
  clear hres
  unfold ptrTo at hLD
  refine wp_region_cut (by kernel_rfl)
   [fun v _ => v = .pointer (some ⟨g5,0,none⟩),fun v _ => v = .agg #[.int .i64 ep,.int .i64 nb,.int .i64 nd],fun v _ => v = .pointer (some ⟨g5+1,0,none⟩),fun v _ => v = .pointer (some ⟨g5+1,0,none⟩),fun v _ => v = .pointer (some ⟨g5+1,1,none⟩),fun v _ => v = .int .i64 ep,fun v _ => v = .agg #[.int .i64 ep,.int .i64 0,.int .i64 0],fun v _ => v = .bool false,fun v _ => v = .bool false,
    fun v _ => v = .pointer (some ⟨g5+1,0,none⟩),fun v _ => v = .pointer (some ⟨g5,3,none⟩),fun v _ => v = .slice (some ⟨gr,0,none⟩) 120 rc,fun _ _ => True,fun _ _ => True,fun _ _ => True]
   [[(5,none)],[(26,some 0)],[(7,none)],[(28,some 2)],[(29,some 3)],[(30,some 4)],[(31,some 5)],[(27,some 1),(32,some 6)],[(33,some 7)],[(7,none),(34,some 8)],[(5,none),(34,some 8)],[(36,some 10),(34,some 8)],[(35,some 9),(37,some 11),(34,some 8)],[(38,some 12),(34,some 8)],[(34,some 8),(39,some 13)]] [some 26,some 27,some 28,some 29,some 30,some 31,some 32,some 33,some 34,some 35,some 36,some 37,some 38,some 39,some 40] [false,false,false,false,false,false,false,false,false,false,false,false,false,false,false,false,false,false,false,false,false,false,false,false,false,false,true,true,true,true,true,true,true,true,true,true,true,true,true,true,true,false,false,false,false,false,false,false,false,false,false,false]
   12 _ rfl (Nat.le_of_ble_eq_true (n:=13) (by kernel_rfl)) (by kernel_rfl) (by kernel_rfl) (by kernel_rfl) (by kernel_rfl) (by kernel_rfl) (by kernel_rfl) ?_ ?_ ?_ ?_
  ·repeat' (first | exact stable_eq _ | exact stable_true | exact trivial | apply And.intro)
  ·refine ⟨?_,?_,?_,?_,?_,?_,?_,?_,?_,?_,?_,?_,trivial⟩
   all_goals
    intro a' z hbz hf
    have z5:=(hbz.block _ (by omega)).trans (unhide H5)
    have z6:=(hbz.block _ hxx).trans (unhide H6)
    have d0:=blk_cell (i:=0) z5
    have d1:=blk_cell (i:=1) z5
    have d2:=blk_cell (i:=2) z5
    have d3:=blk_cell (i:=3) z5
    have e1:=blk_cell (i:=1) z6
    simp [newArrE] at d0 d1 d2 d3 e1
    clear hbz z5 z6
    simp only [PlanFacts,List.getD_cons_zero,List.getD_cons_succ,Array.getD_eq_getD_getElem?] at hf
    try simp at hf
    try (have hg:a'.tmps[34]? = some (.bool false):=tmpB (by first | exact hf | exact hf.1 | exact hf.2 | exact hf.2.2))
    try go_simp
    try simp only [hg,if_true]
    try go_simp
    try exact Below.refl _ _
   all_goals first
    | exact ⟨rfl,Below.refl _ _⟩
    | exact ⟨_,rfl,Below.refl _ _,rfl⟩
    | (refine (unhide (hNO _)).mono ?_;rintro e x' ⟨rfl,hb⟩;exact ⟨rfl,hb⟩)
    | (refine (unhide (hNO _)).mono ?_;rintro e x' ⟨rfl,hb⟩;exact ⟨_,rfl,hb,rfl⟩)
    | skip
  ·intro f z hwd
   simp only [AllWords,List.take] at hwd
   have h8:=hwd.2.2.2.2.2.2.2.2.1
   clear hwd
   simp only [mergeT,h8]
   rfl
  ·intro f z hbz hwd
   simp only [AllWords,List.take] at hwd
   have h8:=hwd.2.2.2.2.2.2.2.2.1
   have h9:=hwd.2.2.2.2.2.2.2.2.2.1
   have h11:=hwd.2.2.2.2.2.2.2.2.2.2.2.1
   have z6:=(hbz.block _ hxx).trans (unhide H6)
   have hzr:=ownsRow_keepB (unhide HRX) (fun g hg => hbz.block g (World.ownsRow.lt (unhide HRX) g hg).2)
   have HC:=hide (unhide (hLD z z6 hzr))
   have HBZ:=hide hbz
   clear hwd z6 hzr hbz hLD
   simp only [mergeT,h8,h9,h11]
   generalize f 26=x26
   generalize f 27=x27
   generalize f 28=x28
   generalize f 29=x29
   generalize f 30=x30
   generalize f 31=x31
   generalize f 32=x32
   generalize f 33=x33
   go_simp
   refine (unhide HC).mono ?_
   rintro e x' ⟨rfl,hF,hl⟩
   have HFX:=hide hF
   have HLX:=hide hl
   clear hF hl
   intro fuel hfu
   obtain ⟨m,rfl⟩:∃ m,fuel=m+2:=⟨fuel - 2,by omega⟩
   refine wpAny_one (i:=13) (by kernel_rfl) rfl rfl ?_
   go_simp
   refine wpAny_one (i:=14) (by kernel_rfl) rfl rfl ?_
   go_simp
   refine wpAny_end (by kernel_rfl) ?_
   have hFw:Far (fun k => k=g5+1) w x':=(far_below (E:=fun k => k=g5+1) (unhide HB)).trans ((far_below (E:=fun k => k=g5+1) (unhide HBZ)).trans (unhide HFX) (fun _ _ h => h)) (fun _ _ h => h)
   have hbw:Below w.heap.size w x':=hFw.below (Nat.le_refl _) (fun k hk h => by omega)
   cases res with
   | none =>
    have HBW:=hide hbw
    clear hbw hFw HC HLX HFX HBZ
    go_wp2
    go_ret2
    first | exact .inl ⟨.inr rfl,rfl,unhide HBW⟩ | exact ⟨rfl,unhide HBW⟩ | exact .inl ⟨rfl,unhide HBW⟩
   | some logs =>
    have hL:=(unhide HLX) logs rfl
    have hLx:=hL.behind (unhide HBZ)
    have hFx:Far (fun k => k=g5+1) x x':=(far_below (E:=fun k => k=g5+1) (unhide HBZ)).trans (unhide HFX) (fun _ _ h => h)
    have hSx':=(unhide hSTx).far hFx (fun k hk e => hnS (by rw [← e];exact hk))
    obtain ⟨arr,lv',K,_,_⟩:=hL
    have hpx':=lt_of_block K.blk
    have q11:x'.cell? ⟨g5+1,11,none⟩=some (.slice none 0 0):=by rw [blk_cell K.blk];exact K.ar
    have hca:∀ o,(x'.alloc o).cell? ⟨g5+1,11,none⟩=some (.slice none 0 0):=fun o => (World.cell?_alloc_lt x' _ ⟨g5+1,11,none⟩ hpx').trans q11
    have hfa:∀ o,(x'.alloc o).frozen? ⟨g5+1,11,none⟩=false:=fun o => blk_free (i:=11) ((hao _ _ hpx').trans K.blk)
    have hzg:¬ g5+1=x'.heap.size:=by omega
    have HLL:=hide (And.intro hLx (And.intro hSx' hbw))
    clear q11 hLx hSx' K hFx hFw HLX HFX HBZ HC
    go_wp2
    go_ret2
    obtain ⟨hL,hS,hbw⟩:=unhide HLL
    obtain ⟨R,hR⟩:∃ R,R=Obj.cells (rulesOf (g5+1)).toArray 130 (0,0):=⟨_,rfl⟩
    obtain ⟨z2,hz2⟩:∃ z2,z2=x'.setCell ⟨g5+1,11,none⟩ (.slice (some ⟨x'.heap.size,0,none⟩) 2 2):=⟨_,rfl⟩
    have hsz2:z2.heap.size=x'.heap.size:=by rw [hz2,World.size_setCell]
    have hr2:RowO (z2.alloc R) 130 2 (.slice (some ⟨x'.heap.size,0,none⟩) 2 2) 2 (rulesOf (g5+1)):=by
     refine ⟨by simp [rulesOf],.inr ⟨x'.heap.size,0,2,(rulesOf (g5+1)).toArray,rfl,?_,by omega,by unfold maxLen;omega,by simp [rulesOf],by simp [rulesOf]⟩⟩
     rw [← hsz2,heap_alloc_new,hR]
    obtain ⟨c,hPK,hPU⟩:=pkAt_ld hL hS (unhide HH).2.2.1 (fun k hk e => hnS (by rw [← e];exact hk)) hz2 hr2
    have hR2:R=Obj.cells #[.int .i64 1,.func (.func 87) #[.pointer (some ⟨g5+1,0,none⟩)] #[],.int .i64 3,.func (.func 88) #[.pointer (some ⟨g5+1,0,none⟩)] #[]] 130 (0,0):=by rw [hR];rfl
    subst hR2
    subst hz2
    have hwx:=(unhide HB).size
    refine .inr ⟨(unhide HBD).1,(unhide HBD).2,logs,g5+1,c,rfl,rfl,hPK,?_,fun k hk => ?_⟩
    ·exact (hbw.setCell (p:=⟨g5+1,11,none⟩) (by show w.heap.size ≤ g5+1;omega) _).alloc (by rw [World.size_setCell];exact hbw.size) _
    ·rcases hPU k hk with h | h | h | h
     ·omega
     ·omega
     ·exact (unhide HSU) k h
     ·have h2:some x'.heap.size=some k:=h
      injection h2 with h2
      have:=hbw.size
      omega
 ·have heq:∀ z:World,(Op.equalIn 10000 100 (.agg #[.int .i64 ep,.int .i64 nb,.int .i64 nd]) (.agg #[.int .i64 ep,.int .i64 0,.int .i64 0])).run Tryz.prog z = .ok false z:=fun z => by
   rw [eq_nums]
   congr 1
   by_cases e1:nb=0
   ·have e2:¬ nd=0:=fun e => hbd ⟨e1,e⟩
    have:((nd:Int) == 0)=false:=by simp;omega
    simp [e1,this]
   ·have:((nb:Int) == 0)=false:=by simp;omega
    simp [this]
  have HBD:=hide hbd
  clear hbd HRX
  refine wp_region_frame (by kernel_rfl)
   [fun v _ => v = .pointer (some ⟨g5,0,none⟩),fun v _ => v = .agg #[.int .i64 ep,.int .i64 nb,.int .i64 nd],fun v _ => v = .pointer (some ⟨g5+1,0,none⟩),fun v _ => v = .pointer (some ⟨g5+1,0,none⟩),fun v _ => v = .pointer (some ⟨g5+1,1,none⟩),fun v _ => v = .int .i64 ep,fun v _ => v = .agg #[.int .i64 ep,.int .i64 0,.int .i64 0],fun v _ => v = .bool true,fun v _ => v = .bool true,
    fun _ _ => True,fun _ _ => True,fun _ _ => True,fun _ _ => True,fun _ _ => True,fun v _ => v = .bool true]
   [[(5,none)],[(26,some 0)],[(7,none)],[(28,some 2)],[(29,some 3)],[(30,some 4)],[(31,some 5)],[(27,some 1),(32,some 6)],[(33,some 7)],[(7,none),(34,some 8)],[(5,none),(34,some 8)],[(36,some 10),(34,some 8)],[(35,some 9),(37,some 11),(34,some 8)],[(38,some 12),(34,some 8)],[(34,some 8),(39,some 13)]] [some 26,some 27,some 28,some 29,some 30,some 31,some 32,some 33,some 34,some 35,some 36,some 37,some 38,some 39,some 40] [false,false,false,false,false,false,false,false,false,false,false,false,false,false,false,false,false,false,false,false,false,false,false,false,false,false,true,true,true,true,true,true,true,true,true,true,true,true,true,true,true,false,false,false,false,false,false,false,false,false,false,false]
   (by kernel_rfl) (by kernel_rfl) (by kernel_rfl) (by kernel_rfl) ?_ ?_ ?_
  ·repeat' (first | exact stable_eq _ | exact stable_true | exact trivial | apply And.intro)
  ·refine ⟨?_,?_,?_,?_,?_,?_,?_,?_,?_,?_,?_,?_,?_,?_,?_,trivial⟩
   all_goals
    intro a' z hbz hf
    have z5:=(hbz.block _ (by omega)).trans (unhide H5)
    have z6:=(hbz.block _ hxx).trans (unhide H6)
    have d0:=blk_cell (i:=0) z5
    have d1:=blk_cell (i:=1) z5
    have d2:=blk_cell (i:=2) z5
    have d3:=blk_cell (i:=3) z5
    have e1:=blk_cell (i:=1) z6
    simp [newArrE] at d0 d1 d2 d3 e1
    clear hbz z5 z6
    simp only [PlanFacts,List.getD_cons_zero,List.getD_cons_succ,Array.getD_eq_getD_getElem?] at hf
    try simp at hf
    try (have hg:a'.tmps[34]? = some (.bool true):=tmpB (by first | exact hf | exact hf.1 | exact hf.2 | exact hf.2.2))
    try go_simp
    try exact Below.refl _ _
    try trivial
   all_goals first
    | exact ⟨rfl,Below.refl _ _⟩
    | exact ⟨_,rfl,Below.refl _ _,rfl⟩
    | (refine (unhide (hNO _)).mono ?_;rintro e x' ⟨rfl,hb⟩;exact ⟨rfl,hb⟩)
    | (refine (unhide (hNO _)).mono ?_;rintro e x' ⟨rfl,hb⟩;exact ⟨_,rfl,hb,rfl⟩)
    | skip
  ·intro f z hbz hwd
   simp only [AllWords] at hwd
   have h14:=hwd.2.2.2.2.2.2.2.2.2.2.2.2.2.2.1
   have HBZ:=hide ((unhide HB).trans (hbz.mono (unhide HB).size))
   clear hwd hbz
   simp only [mergeT,h14]
   generalize f 26=x26
   generalize f 27=x27
   generalize f 28=x28
   generalize f 29=x29
   generalize f 30=x30
   generalize f 31=x31
   generalize f 32=x32
   generalize f 33=x33
   generalize f 34=x34
   generalize f 35=x35
   generalize f 36=x36
   generalize f 37=x37
   generalize f 38=x38
   generalize f 39=x39
   go_wp2
   go_ret2
   first | exact .inl ⟨.inl (unhide HBD),rfl,unhide HBZ⟩ | exact ⟨.inl (unhide HBD),rfl,unhide HBZ⟩
end Go.Proofs.YtamafdcnbcoegabGreat
