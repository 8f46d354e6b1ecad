/-
  Part 3 of a proof: D6, D7, M1, X2, X4, X5, M2, Y3, Y4, Y5, Y6, S1, Shelf, S2, S3, S4, S6.
-/
import Derived.Laws.OwnMore
import Derived.Maps.OwnIn
import Derived.Shelf.Small.Wraps
import Derived.Shelf.LaysM
import Derived.Shelf.Strconv.Clone
import Derived.Shelf.Slices.Reverse
import Derived.Ground.Names2Prog
import Derived.Shelf.Slices.Clone
import Derived.Shelf.Slices.SearchI
import Derived.Shelf.Slices.Delete
import Derived.Shelf.Slices.Cells
import Derived.Shelf.Slices.Empties
import Derived.Ground.SlgnProg
import Derived.Shelf.SlicesE.Clone
import Derived.Test.YtamafdcnbcoegabGreatProg
import Derived.Shelf.Spec.SlicesInsertGrow
import Derived.Test.YtamafdcnbcoegabGreatAn2
namespace Go.Proofs.YtamafdcnbcoegabGreat
open Go.RowKit
theorem alloc2 (w:World) (A B:Obj):((w.alloc A).alloc B).heap[w.heap.size]? = some A∧((w.alloc A).alloc B).heap[w.heap.size+1]? = some B∧Below w.heap.size w ((w.alloc A).alloc B):=by
 have h1:=heap_alloc_new (w.alloc A) B
 have e1:(w.alloc A).heap.size=w.heap.size+1:=by simp
 rw [e1] at h1
 refine ⟨?_,h1,((Below.refl _ _).alloc (Nat.le_refl _) _).alloc (by omega) _⟩
 rw [hao _ _ (by omega)]
 exact heap_alloc_new w A
set_option maxRecDepth 100000 in
set_option maxHeartbeats 2000000 in
theorem sealHead_any (o c a b d:Nat) (w:World) (ho:o < 4294967296) (hc:c < 18446744073709551616) (ha:a < 4294967296) (hb:b < 4294967296) (hd:d < 4294967296) :
  Calls Tryz.prog 164 #[.agg #[.int .u32 o,.int .u64 c,.int .i64 a,.int .i64 b,.int .i64 d]] w fun r w' => r = .returned (.agg (bv (Mod.sealB o c (Mod.headIn a b d))).toArray)∧Below w.heap.size w w':=by
 have e0:∀ y:World,(Instr.index 100 (.agg #[.int .i64 a,.int .i64 b,.int .i64 d]) (.int .i64 0)).run Tryz.prog y = .ok (.int .i64 a) y:=fun y => by kernel_rfl
 have e1:∀ y:World,(Instr.index 100 (.agg #[.int .i64 a,.int .i64 b,.int .i64 d]) (.int .i64 1)).run Tryz.prog y = .ok (.int .i64 b) y:=fun y => by kernel_rfl
 have e2:∀ y:World,(Instr.index 100 (.agg #[.int .i64 a,.int .i64 b,.int .i64 d]) (.int .i64 2)).run Tryz.prog y = .ok (.int .i64 d) y:=fun y => by kernel_rfl
 have hl:∀ n:Int,(Wire.le4 n).length=4:=fun n => Wire.length_le4 n
 go_enter Tryz.func164,Tryz.ntmps164
 go_upto_region 2 with fail
 refine wp_world (fun x => x.heap[w.heap.size]? = some (.cells #[.int .u32 o,.int .u64 c,.int .i64 a,.int .i64 b,.int .i64 d] 199 (0,0))∧x.heap[w.heap.size+1]? = some (.cells (bv zeros).toArray 214 (0,0))∧Below w.heap.size w x) ?_ ?_
 ·exact ⟨(alloc2 _ _ _).1,cells_eq (alloc2 _ _ _).2.1 (by kernel_rfl),(alloc2 _ _ _).2.2⟩
 rintro x ⟨h0,h1,hB⟩
 have c2:x.cell? ⟨w.heap.size,2,none⟩=some (.int .i64 a):=blk_cell (i:=2) h0
 have c3:x.cell? ⟨w.heap.size,3,none⟩=some (.int .i64 b):=blk_cell (i:=3) h0
 have c4:x.cell? ⟨w.heap.size,4,none⟩=some (.int .i64 d):=blk_cell (i:=4) h0
 have hz:=lt_of_block h1
 have H0:=hide h0
 have H1:=hide h1
 have HB0:=hide hB
 clear h0 h1 hB
 go_wp2
 go_loopw [3,5,8] (fun v _ i wr => ∃ j:Nat,j ≤ 3∧i = .int .i64 j∧Owns (w.heap.size+2) wr v ((Mod.headIn a b d).take (4 * j))∧wr.heap[w.heap.size]? = some (.cells #[.int .u32 o,.int .u64 c,.int .i64 a,.int .i64 b,.int .i64 d] 199 (0,0))∧wr.heap[w.heap.size+1]? = some (.cells (bv zeros).toArray 214 (0,0))∧Below w.heap.size w wr) (fun _ _ i _ => 3 - (intOf i).toNat)
 case atStart => exact ⟨0,by omega,rfl,owns_nil _ _,unhide H0,unhide H1,unhide HB0⟩
 case round =>
  obtain ⟨j,hj,rfl,ho',h0',h1',hb'⟩:=hrel
  clear H0 H1 HB0 c2 c3 c4
  have hz':=lt_of_block h1'
  have HO:=hide ho'
  have H0:=hide h0'
  have H1:=hide h1'
  have HB:=hide hb'
  clear ho' h0' h1' hb'
  rcases (show j=0 ∨ j=1 ∨ j=2 ∨ j=3 by omega) with rfl | rfl | rfl | rfl
  ·have HL:=hide (show (Mod.headIn a b d).take (4 * (0+1))=(Mod.headIn a b d).take (4 * 0) ++ Wire.le4 a by simp [Mod.headIn,Wire.le4])
   go_upto_region 6 with (go_at_call 103;refine (appendNumber_any (w.heap.size+2) (a:Int) u3 _ wr (by simp only [List.length_take,Mod.length_headIn];omega) (by omega) (by omega) (unhide HO)).mono ?_;rintro r z ⟨v',rfl,hown,hg⟩;have hb2:Below (w.heap.size+2) wr z:=below_grown_new hg (by omega) (fun g hg => ((unhide HO).lt g hg).1);have HO2:=hide hown;have HB2:=hide ((unhide HB).trans (hb2.mono (by omega)));have H02:=hide ((hb2.block _ (by omega)).trans (unhide H0));have H12:=hide ((hb2.block _ (by omega)).trans (unhide H1));clear hown hg hb2)
   go_wp2
   exact ⟨⟨0+1,by omega,by go_num,by rw [unhide HL];exact unhide HO2,unhide H02,unhide H12,unhide HB2⟩,by simp [intOf]⟩
  ·have HL:=hide (show (Mod.headIn a b d).take (4 * (1+1))=(Mod.headIn a b d).take (4 * 1) ++ Wire.le4 b by simp [Mod.headIn,Wire.le4])
   go_upto_region 6 with (go_at_call 103;refine (appendNumber_any (w.heap.size+2) (b:Int) u3 _ wr (by simp only [List.length_take,Mod.length_headIn];omega) (by omega) (by omega) (unhide HO)).mono ?_;rintro r z ⟨v',rfl,hown,hg⟩;have hb2:Below (w.heap.size+2) wr z:=below_grown_new hg (by omega) (fun g hg => ((unhide HO).lt g hg).1);have HO2:=hide hown;have HB2:=hide ((unhide HB).trans (hb2.mono (by omega)));have H02:=hide ((hb2.block _ (by omega)).trans (unhide H0));have H12:=hide ((hb2.block _ (by omega)).trans (unhide H1));clear hown hg hb2)
   go_wp2
   exact ⟨⟨1+1,by omega,by go_num,by rw [unhide HL];exact unhide HO2,unhide H02,unhide H12,unhide HB2⟩,by simp [intOf]⟩
  ·have HL:=hide (show (Mod.headIn a b d).take (4 * (2+1))=(Mod.headIn a b d).take (4 * 2) ++ Wire.le4 d by simp [Mod.headIn,Wire.le4])
   go_upto_region 6 with (go_at_call 103;refine (appendNumber_any (w.heap.size+2) (d:Int) u3 _ wr (by simp only [List.length_take,Mod.length_headIn];omega) (by omega) (by omega) (unhide HO)).mono ?_;rintro r z ⟨v',rfl,hown,hg⟩;have hb2:Below (w.heap.size+2) wr z:=below_grown_new hg (by omega) (fun g hg => ((unhide HO).lt g hg).1);have HO2:=hide hown;have HB2:=hide ((unhide HB).trans (hb2.mono (by omega)));have H02:=hide ((hb2.block _ (by omega)).trans (unhide H0));have H12:=hide ((hb2.block _ (by omega)).trans (unhide H1));clear hown hg hb2)
   go_wp2
   exact ⟨⟨2+1,by omega,by go_num,by rw [unhide HL];exact unhide HO2,unhide H02,unhide H12,unhide HB2⟩,by simp [intOf]⟩
  ·rw [List.take_of_length_le (by rw [Mod.length_headIn];omega)] at HO
   have c0:wr.cell? ⟨w.heap.size,0,none⟩=some (.int .u32 o):=blk_cell (i:=0) (unhide H0)
   have c1:wr.cell? ⟨w.heap.size,1,none⟩=some (.int .u64 c):=blk_cell (i:=1) (unhide H0)
   have hS:=hide (seal_any o c (Mod.headIn a b d) u3 wr ho hc (by rw [Mod.length_headIn];omega) (unhide HO).at)
   have hL3:(Mod.sealB o c (Mod.headIn a b d)).length=64:=Mod.length_sealB o c (by rw [Mod.length_headIn];omega)
   obtain ⟨S,hSd⟩:∃ S,S=Mod.sealB o c (Mod.headIn a b d):=⟨_,rfl⟩
   rw [← hSd] at hS hL3
   have HSD:=hide hSd
   clear hSd
   go_wp2_with (first
    | (go_at_call 171;refine (unhide hS).mono ?_;rintro r z ⟨rfl,hb3⟩)
    | (refine wpList_store_sec rfl (.tmp 2) (.tmp 19) rfl (w.heap.size+1) rfl S hL3 rfl 214 _ (by simp [bv_length,length_zeros]) ((hb3.block _ (by omega)).trans (unhide H1)) ?_;intro z4 hz4 hF4;go_simp))
   exact bodyPost_ret (results_sec Tryz.results164 _ _ (w.heap.size+1) _ _ hL3 rfl hz4) rfl ⟨by rw [unhide HSD],((unhide HB).trans (hb3.mono (unhide HB).size)).trans (hF4.below (by have:=(unhide HB).size;have:=hb3.size;omega) (fun k hk e => by omega))⟩
theorem oper_app_str {o:Oper} {a:Act} {K:Act→World→Prop} {Q:Exit→Act→World→Prop} {w:World} (s x:Operand)
  (ho:o.op = .call { callee:=.builtin .append,args:=#[s,x],argTypes:=#[48,9] }) (B:Nat) (v:Value) (l:List UInt8) (hown:Owns B w v l) (hs:a.eval s=v)
  (str:ByteArray) (hx:a.eval x = .string str) (hsz:l.length+str.size ≤ 140737488355328) (hB:B ≤ w.heap.size)
  (h:∀ v' w',Owns B w' v' (l ++ str.data.toList)→w.grownBy w' v.ownBlock→K (a.put o.dst v') w'):o.wp Tryz.prog a w K Q:=by
 obtain ⟨i0,hi,hz0,hz1,hz2⟩:=info_parts info5
 obtain ⟨v',w',hr,h1,h2,_⟩:=Lib.run_append_own_string (P:=Tryz.prog) w B 48 9 o.type 5 i0 Tryz.underlying48 Tryz.underlying9 hi hz0 hz1 hz2 v l.length (bv l) hown str
  (by unfold maxLen;omega) hsz hB
 unfold Oper.wp execOp
 simp only [ho,resolve,invoke,builtin,Sem.run_bind,Sem.run_pure,Result.andThen_ok,List.map_toArray,List.map_cons,List.map_nil,hs,hx,hr]
 refine h v' w' ?_ h2
 unfold Owns
 rw [bv_append,List.length_append,← bv_str]
 have:str.data.toList.length=str.size:=by simp
 rw [this]
 exact h1
theorem ownsRow_keepB {w w':World} {B size:Nat} {e:TypeId} {v:Value} {n:Nat} {xs:List Value} (h:w.ownsRow B e size v n xs) (hk:∀ g,v.ownBlock=some g→w'.heap[g]? = w.heap[g]?):w'.ownsRow B e size v n xs:=by
 obtain ⟨h1,h2⟩:=h
 refine ⟨h1,?_⟩
 rcases h2 with h2 | ⟨g,cap,cur,rfl,hb,hh,r⟩
 ·exact .inl h2
 ·exact .inr ⟨g,cap,cur,rfl,hb,by rw [hk g rfl];exact hh,r⟩
theorem stableF_ownsW {B:Nat} {l:List UInt8} {E:Nat→Prop} (hE:∀ k,E k→k < B):StableF E (OwnsW B l):=fun _ _ _ h hF =>
 ⟨ownsRow_keepB h.1 (fun g hg => hF.rest g (h.2 g hg) (fun e => by have:=(h.1.lt g hg).1;have:=hE g e;omega)),fun g hg => Nat.lt_of_lt_of_le (h.2 g hg) hF.size⟩
theorem stable_blk (k:Nat) (o:Obj):Stable (fun _ w => w.heap[k]? = some o):=fun _ _ _ h hb => (hb.block k (lt_of_block h)).trans h
theorem stableF_blk {k:Nat} {o:Obj} {E:Nat→Prop} (hE:¬ E k):StableF E (fun _ w => w.heap[k]? = some o):=fun _ _ _ h hF => hF.blk h hE
theorem owns_two {B:Nat} (x:World) (hB:B ≤ x.heap.size) (a b:Nat) (ha:a < 256) (hb:b < 256):Owns B (x.alloc (.cells #[.int .u8 a,.int .u8 b] 5)) (.slice (some ⟨x.heap.size,0,none⟩) 2 2) [UInt8.ofNat (a % 256),UInt8.ofNat (b % 256)]:=by
 refine ⟨by simp [bv],.inr ⟨x.heap.size,2,_,rfl,hB,heap_alloc_new x _,by simp,by unfold maxLen;omega,by simp,?_⟩⟩
 have h1:a % 256=a:=by omega
 have h2:b % 256=b:=by omega
 simp [bv,h1,h2]
set_option maxRecDepth 100000 in
set_option maxHeartbeats 2000000 in
theorem sealRecord_any (o c st q:Nat) (b:ByteArray) (w:World) (ho:o < 4294967296) (hc:c < 18446744073709551616) (hs:st < 256) (hq:q < 4294967296) (hb:b.size ≤ 20) :
  Calls Tryz.prog 124 #[.agg #[.int .u32 o,.int .u64 c],.agg #[.int .i64 st,.int .i64 q,.string b]] w fun r w' => r = .returned (.agg (bv (Mod.sealB o c (Mod.recIn st q b.data.toList))).toArray)∧Below w.heap.size w w':=by
 have hws:IntKind.u8.wrap (st:Int)=(st:Int):=by rw [IntKind.wrap_u8];omega
 have hwb:IntKind.u8.wrap (b.size:Int)=(b.size:Int):=by rw [IntKind.wrap_u8];omega
 have hwq:IntKind.u32.wrap (q:Int)=(q:Int):=by rw [IntKind.wrap_u32];omega
 go_enter Tryz.func124,Tryz.ntmps124
 go_upto_region 1 with fail
 refine wp_world (fun x => x.heap[w.heap.size]? = some (.cells #[.int .u32 o,.int .u64 c] 188 (0,0))∧x.heap[w.heap.size+1]? = some (.cells #[.int .i64 st,.int .i64 q,.string b] 150 (0,0))∧x.heap[w.heap.size+2]? = some (.cells (bv zeros).toArray 214 (0,0))∧Below w.heap.size w x) ?_ ?_
 ·exact ⟨(alloc3 _ _ _ _).1,(alloc3 _ _ _ _).2.1,cells_eq (alloc3 _ _ _ _).2.2.1 (by kernel_rfl),(alloc3 _ _ _ _).2.2.2⟩
 rintro x ⟨h0,h1,h2,hB⟩
 have hz:=lt_of_block h2
 have c0:x.cell? ⟨w.heap.size+1,0,none⟩=some (.int .i64 st):=blk_cell (i:=0) h1
 have c1:x.cell? ⟨w.heap.size+1,1,none⟩=some (.int .i64 q):=blk_cell (i:=1) h1
 have c2:x.cell? ⟨w.heap.size+1,2,none⟩=some (.string b):=blk_cell (i:=2) h1
 have c1a:∀ ob,(x.alloc ob).cell? ⟨w.heap.size+1,1,none⟩=some (.int .i64 q):=fun ob => by
  exact (World.cell?_alloc_lt x _ ⟨w.heap.size+1,1,none⟩ (by show w.heap.size+1 < _;omega)).trans c1
 have H0:=hide h0
 have H1:=hide h1
 have H2:=hide h2
 have HB:=hide hB
 clear h0 h1 h2 hB
 have hA:=fun (v:Value) (l:List UInt8) (n:Int) (y:World) (h1:l.length ≤ 1000) (h2:w.heap.size+3 ≤ y.heap.size) (h3:0 ≤ n) (h4:Owns (w.heap.size+3) y v l) => hide (appendNumber_any (w.heap.size+3) n v l y h1 h2 h3 h4)
 have hO2:=hide (owns_two x (B:=w.heap.size+3) (by omega) st b.size hs (by omega))
 go_upto_region 2 with (go_at_call 103;refine (unhide (hA _ _ (q:Int) _ (by simp) (by simp;omega) (by omega) (unhide hO2))).mono ?_;rintro r y ⟨v5,rfl,hown,hg⟩)
 have b1:Below (w.heap.size+3) x y:=((Below.refl _ _).alloc (by omega) _).trans (below_grown_new hg (by simp;omega) (fun g hg => ((unhide hO2).lt g hg).1))
 have H0:=hide ((b1.block _ (by omega)).trans (unhide H0))
 have h1y:=(b1.block (w.heap.size+1) (by omega)).trans (unhide H1)
 have H2:=hide ((b1.block (w.heap.size+2) (by omega)).trans (unhide H2))
 have HB:=hide ((unhide HB).trans (b1.mono (by omega)))
 have hzy:=b1.size
 have HO:=hide hown
 have c0:y.cell? ⟨w.heap.size,0,none⟩=some (.int .u32 o):=blk_cell (i:=0) (unhide H0)
 have c0':y.cell? ⟨w.heap.size,1,none⟩=some (.int .u64 c):=blk_cell (i:=1) (unhide H0)
 have c2:y.cell? ⟨w.heap.size+1,2,none⟩=some (.string b):=blk_cell (i:=2) h1y
 clear hown hg hO2 c1a c1 h1y b1
 have hrl:(Mod.recIn st q b.data.toList).length ≤ 40:=by rw [Mod.length_recIn];simp;omega
 have hL3:(Mod.sealB o c (Mod.recIn st q b.data.toList)).length=64:=Mod.length_sealB o c hrl
 obtain ⟨R,hR⟩:∃ R,R=Mod.recIn st q b.data.toList:=⟨_,rfl⟩
 rw [← hR] at hrl hL3
 have hRe:[UInt8.ofNat (st % 256),UInt8.ofNat (b.size % 256)] ++ Wire.le4 q ++ b.data.toList=R:=by rw [hR];simp [Mod.recIn]
 have hS:=fun v y hat => hide (seal_any o c R v y ho hc hrl hat)
 obtain ⟨S,hSd⟩:∃ S,S=Mod.sealB o c R:=⟨_,rfl⟩
 rw [← hSd] at hS hL3
 have hSR:=hide (show S=Mod.sealB o c (Mod.recIn st q b.data.toList) by rw [hSd,hR])
 have hRe:=hide hRe
 clear hSd hR
 have hvB:=hide (fun g hg => ((unhide HO).lt g hg).1)
 have hnb:∀ k,k < w.heap.size+2→∀ p ∈ ([(4,fun k => v5.ownBlock=some k),(6,fun k => k=w.heap.size+2)]:List (Nat × (Nat→Prop))),¬ p.2 k:=by
  intro k hk p hp
  simp at hp
  rcases hp with rfl | rfl
  ·intro e
   have:=(unhide hvB) k e
   omega
  ·intro e
   have e:k=w.heap.size+2:=e
   omega
 refine wp_region_foot (by kernel_rfl)
  [fun v _ => v = .agg #[.int .u32 o,.int .u64 c],fun v _ => v=v5,fun v _ => v = .pointer (some ⟨w.heap.size+1,2,none⟩),fun v _ => v = .string b,OwnsW (w.heap.size+3) R,fun v _ => v = .agg (bv S).toArray,fun _ z => z.heap[w.heap.size+2]? = some (.cells (bv S).toArray 214 (0,0))]
  [[(2,none)],[(5,none)],[(3,none)],[(20,some 2)],[(19,some 1),(21,some 3)],[(18,some 0),(22,some 4)],[(4,none),(23,some 5)]] [some 18,some 19,some 20,some 21,some 22,some 23,none] [false,false,false,false,false,false,false,false,false,false,false,false,false,false,false,false,false,false,true,true,true,true,true,true]
  [(4,fun k => v5.ownBlock=some k),(6,fun k => k=w.heap.size+2)]
  (by kernel_rfl) (by kernel_rfl) (by kernel_rfl) (by kernel_rfl) (by kernel_rfl) ?_ ?_ ?_ ?_
 ·repeat' (first | exact stable_eq _ | exact stable_ownsW _ _ | exact stable_blk _ _ | exact trivial | apply And.intro)
 ·repeat' (first | exact trivial | exact .inl rfl | exact .inr (.inr (stableF_eq _ _)) | exact .inr (.inr (stableF_ownsW (fun k hk => by omega))) | exact .inr (.inr (stableF_blk (fun e => by have:=(unhide hvB) _ e;omega))) | apply And.intro)
 ·refine ⟨?_,?_,?_,?_,?_,?_,?_,trivial⟩
  all_goals
   intro a z hb hf
   have z0:=hb.blk (unhide H0) (footBut_no (hnb _ (by omega)))
   have d0:z.cell? ⟨w.heap.size,0,none⟩=some (.int .u32 o):=blk_cell (i:=0) z0
   have d1:z.cell? ⟨w.heap.size,1,none⟩=some (.int .u64 c):=blk_cell (i:=1) z0
   have d2:z.cell? ⟨w.heap.size+1,2,none⟩=some (.string b):=by
    have:=hb.rest (w.heap.size+1) (by omega) (footBut_no (hnb _ (by omega)))
    unfold World.cell? at c2 ⊢
    simp only at c2 ⊢
    rw [this]
    exact c2
   have hzz:=hb.size
   have HBZ:=hide hb
   clear hb z0
   simp only [PlanFacts,List.getD_cons_zero,List.getD_cons_succ,Array.getD_eq_getD_getElem?] at hf
   try simp at hf
  ·go_simp
   exact ⟨_,rfl,Far.refl _ _,rfl⟩
  ·go_simp
   exact ⟨_,rfl,Far.refl _ _,rfl⟩
  ·go_simp
   exact ⟨_,rfl,Far.refl _ _,rfl⟩
  ·go_simp
   exact ⟨_,rfl,Far.refl _ _,rfl⟩
  ·have hoz:Owns (w.heap.size+3) z v5 _:=ownsRow_keepB (unhide HO) (fun g hg => (unhide HBZ).rest g ((unhide HO).lt g hg).2 (by
    rintro ⟨p,hp,h1,_,h3⟩
    simp at hp
    rcases hp with rfl | rfl
    ·exact h1 rfl
    ·have:=(unhide hvB) g hg
     have h3:g=w.heap.size+2:=h3
     omega))
   rw [if_pos (by rfl)]
   refine oper_app_str (.tmp 19) (.tmp 21) rfl (w.heap.size+3) v5 _ hoz (by simp [Act.eval,hf]) b (by simp [Act.eval,hf]) (by simp [Wire.length_le4];omega) (by omega) ?_
   intro v' w' h1 h2
   rw [show _=R from unhide hRe] at h1
   exact ⟨v',rfl,footOf_of (.head _) (far_grown h2),h1,fun g hg => (h1.lt g hg).2⟩
  ·go_simp
   refine (unhide (hS _ z hf.2.1.at)).mono ?_
   rintro r w1 ⟨rfl,hb1⟩
   exact ⟨_,rfl,far_below hb1,rfl⟩
  ·have z2:=(unhide HBZ).blk (unhide H2) (by
    rintro ⟨p,hp,h1,_,h3⟩
    simp at hp
    rcases hp with rfl | rfl
    ·have:=(unhide hvB) _ h3
     omega
    ·exact h1 rfl)
   rw [if_pos (by rfl)]
   refine oper_store_sec (.tmp 4) (.tmp 23) rfl (w.heap.size+2) (by simp [Act.eval,hf]) S hL3 (by simp [Act.eval,hf]) 214 _ (by simp [bv_length,length_zeros]) z2 ?_
   intro w' h1 h2
   exact ⟨_,rfl,footOf_of (.tail _ (.head _)) h2,h1⟩
 ·intro f z hF hwd
  have hsec:=hwd.2.2.2.2.2.2.1
  have HBZ:=hide ((unhide HB).trans (hF.below (by omega) (fun k hk h => by
   obtain ⟨p,hp,h3⟩:=h
   exact hnb k (by omega) p hp h3)))
  clear hwd hF
  simp only [mergeT]
  generalize f 18=x18
  generalize f 19=x19
  generalize f 20=x20
  generalize f 21=x21
  generalize f 22=x22
  generalize f 23=x23
  go_simp
  go_wp2
  exact bodyPost_ret (results_sec Tryz.results124 _ _ (w.heap.size+2) _ _ hL3 rfl hsec) rfl ⟨by rw [unhide hSR],unhide HBZ⟩
end Go.Proofs.YtamafdcnbcoegabGreat
namespace Go.Proofs.YtamafdcnbcoegabGreat
open Go.RowKit
theorem oper_copy_cur {o:Oper} {a:Act} {w:World} {K:Act→World→Prop} {Q:Exit→Act→World→Prop} (d s:Operand)
  (ho:o.op = .call { callee:=.builtin .copy,args:=#[d,s],argTypes:=#[48,48] }) (g off n cap m:Nat) (cur:Array Value) (cs:List Value) (t:TypeId) (b o' cap':Nat)
  (hg:w.heap[g]? = some (.cells cur t (0,0))) (hd:a.eval d = .slice (some ⟨g,off,none⟩) n cap) (hs:a.eval s = .slice (some ⟨b,o',none⟩) m cap') (hm:cs.length=m) (hsrc:∀ j v,cs[j]? = some v→w.cell? ⟨b,o' + j,none⟩=some v) (hl:m ≤ n) (hfit:off+m ≤ cur.size) (h1:∀ v ∈ cs,v.oneCell' = true)
  (h:∀ w',w'.heap[g]? = some (.cells (cur.toList.take off ++ (cs ++ cur.toList.drop (off+m))).toArray t (0,0))→Far (fun k => k=g) w w' → K (a.put o.dst (.int .i64 m)) w'):o.wp Tryz.prog a w K Q:=by
 subst hm
 have hrun:=run_copy_row (P:=Tryz.prog) w 48 48 o.type 5 g off n cap ⟨b,o',none⟩ cs.length cap' cur t cs Tryz.underlying48 size5 hg (Nat.min_eq_left hl).symm (by
  intro j u hj
  rw [add_mk]
  exact hsrc j u hj) hfit h1
 unfold Oper.wp
 simp [execOp,ho,resolve,invoke,builtin,hd,hs,hrun,Result.andThen]
 exact h _ (setRow_heap w g cur _ t (0,0) hg) ⟨rfl,rfl,rfl,by simp,fun k _ hk => setRow_other w g k _ hk⟩
set_option maxRecDepth 100000 in
set_option maxHeartbeats 1000000 in
theorem apply_any (w:World) (k:Nat) (S L:List UInt8) (lv:Value) (hS:S.length=64) (hk:64 * k+64 ≤ L.length) (hL:L.length ≤ 10000) (hrow:w.ownsRow 0 5 1 lv L.length (bv L)) :
  Calls Tryz.prog 176 #[.agg (.int .i64 k :: bv S).toArray,lv] w fun r w' => r = .returned (.tuple #[])∧w'.ownsRow 0 5 1 lv (Mod.setSec L k S).length (bv (Mod.setSec L k S))∧Far (fun j => lv.ownBlock=some j) w w':=by
 have hlen:=Mod.length_setSec (l:=L) (k:=k) hS hk
 obtain ⟨h1,h2⟩:=hrow
 rcases h2 with ⟨_,h2⟩ | ⟨g,cap,cur,rfl,hB,hh,hn,hc,hs,ht⟩
 ·omega
 have hgl:=lt_of_block hh
 obtain ⟨n,hnl⟩:∃ n,n=L.length:=⟨_,rfl⟩
 rw [← hnl] at hk hL h1 hn ht hlen ⊢
 have i0:(0:Int) ≤ (k:Int) * 64:=by omega
 have i1:(k:Int) * 64 ≤ (n:Int):=by omega
 have it:((k:Int) * 64).toNat=k * 64:=by omega
 have i2:(n:Int) ≤ (cap:Int):=by omega
 have hw:IntKind.i64.wrap ((k:Int) * 64)=(k:Int) * 64:=by rw [IntKind.wrap_i64];omega
 have hne:¬ cap=k * 64:=by omega
 have hne2:¬ (cap:Int)=(k:Int) * 64:=by omega
 have HNL:=hide hnl
 have HLEN:=hide hlen
 have HT:=hide ht
 have HH:=hide hh
 clear hnl hlen ht hh
 go_enter Tryz.func176,Tryz.ntmps176
 go_upto_region 1 with fail
 refine wp_world (fun x => x.heap[w.heap.size]? = some (.cells (.int .i64 k :: bv S).toArray 254 (0,0))∧Below w.heap.size w x) ⟨heap_alloc_new w _,(Below.refl _ _).alloc (Nat.le_refl _) _⟩ ?_
 rintro x ⟨h0,hB0⟩
 have c0:x.cell? ⟨w.heap.size,0,none⟩=some (.int .i64 k):=by rw [blk_cell h0];simp
 have hz:=lt_of_block h0
 have H0:=hide h0
 have HB0:=hide hB0
 clear h0 hB0
 refine wp_region_last (by kernel_rfl)
  [fun v _ => v = .slice (some ⟨g,0,none⟩) n cap,fun v _ => v = .pointer (some ⟨w.heap.size,0,none⟩),fun v _ => v = .int .i64 k,fun v _ => v = .int .i64 ((k:Int) * 64),fun v _ => v = .slice (some ⟨g,k * 64,none⟩) (n - k * 64) (cap - k * 64),fun v _ => v = .pointer (some ⟨w.heap.size,1,none⟩),fun v _ => v = .slice (some ⟨w.heap.size,1,none⟩) 64 64,fun _ _ => True]
  [[(1,none)],[(2,none)],[(5,some 1)],[(6,some 2)],[(4,some 0),(7,some 3)],[(2,none)],[(9,some 5)],[(8,some 4),(10,some 6)]] [some 4,some 5,some 6,some 7,some 8,some 9,some 10,some 11] [false,false,false,false,true,true,true,true,true,true,true,true]
  7 _ rfl rfl (by kernel_rfl) (by kernel_rfl) (by kernel_rfl) (by kernel_rfl) (by kernel_rfl) (by kernel_rfl) ?_ ?_ ?_
 ·repeat' (first | exact stable_eq _ | exact stable_true | exact trivial | apply And.intro)
 ·refine ⟨?_,?_,?_,?_,?_,?_,?_,trivial⟩
  all_goals
   intro a y hb hf
   have y0:=(hb.cell (p:=⟨w.heap.size,0,none⟩) (by show w.heap.size < _;omega)).trans c0
   have hzy:=hb.size
   clear hb
   simp only [PlanFacts,List.getD_cons_zero,List.getD_cons_succ,Array.getD_eq_getD_getElem?] at hf
   try simp at hf
   try go_simp
   try exact Below.refl _ _
 ·intro f y hb hwd
  simp only [AllWords,List.take] at hwd
  have hf8:=hwd.2.2.2.2.1
  have hf10:=hwd.2.2.2.2.2.2.1
  simp only [mergeT,hf8,hf10]
  have g0:=(hb.block _ (by show w.heap.size < _;omega)).trans (unhide H0)
  have gl:=(hb.block g (by have:=(unhide HB0).size;omega)).trans (((unhide HB0).block g hgl).trans (unhide HH))
  have HBY:=hide ((unhide HB0).trans (hb.mono (by have:=(unhide HB0).size;omega)))
  have hzy:=hb.size
  refine oper_copy_cur (.tmp 8) (.tmp 10) rfl g (k * 64) (n - k * 64) (cap - k * 64) 64 cur (bv S) 5 w.heap.size 1 64 gl rfl rfl (by rw [bv_length,hS]) ?_ (by omega) (by omega) (bv_oneCell S) ?_
  ·intro j v hj
   rw [blk_cell g0,List.getElem?_toArray,Nat.add_comm 1 j,List.getElem?_cons_succ]
   exact hj
  ·intro z hz hF
   have hcells:((cur.toList.take (k * 64) ++ (bv S ++ cur.toList.drop (k * 64+64))).toArray).toList.take (n * 1)=bv (Mod.setSec L k S):=by
    have hA:(cur.toList.take (k * 64)).length=k * 64:=by rw [List.length_take,Array.length_toList];omega
    have hb2:bv (Mod.setSec L k S)=(bv L).take (64 * k) ++ (bv S ++ (bv L).drop (64 * k+64)):=by simp [Mod.setSec,bv,List.map_take,List.map_drop]
    rw [List.toList_toArray,hb2,← unhide HT,Nat.mul_one,List.take_take,List.drop_take,List.take_append,List.take_append,hA,bv_length,hS,List.take_of_length_le (l:=cur.toList.take (k * 64)) (by rw [hA];omega),List.take_of_length_le (l:=bv S) (by rw [bv_length,hS];omega)]
    rw [show min (64 * k) n=k * 64 by omega,show 64 * k+64=k * 64+64 by omega,show n - k * 64 - 64=n - (k * 64+64) by omega]
   have HZ:=hide hz
   have HF:=hide hF
   clear hb hwd hf8 hf10 g0 gl hz hF c0
   go_simp
   go_wp2
   refine bodyPost_end (results_none rfl _ _ _) rfl ?_
   refine ⟨rfl,⟨by rw [bv_length];omega,.inr ⟨g,cap,_,by rw [unhide HLEN],Nat.zero_le _,unhide HZ,by rw [unhide HLEN];omega,hc,by simp [bv_length];omega,by rw [unhide HLEN];exact hcells⟩⟩,?_⟩
   exact (far_below (E:=fun j => (Value.slice (some ⟨g,0,none⟩) n cap).ownBlock=some j) (unhide HBY)).trans (unhide HF) (fun j _ e => by rw [e];rfl)
structure DkAt (w:World) (p:Nat) (d:Mod.Dk) (lv uv:Value):Prop where
 blk:w.heap[p]? = some (.cells #[lv,uv,.int .i64 d.armed,.bool d.dead] 233 (0,0))
 row:w.ownsRow 0 5 1 lv d.bytes.length (bv d.bytes)
 un:RowO w 254 65 uv 0 []
 len:128 ≤ d.bytes.length∧d.bytes.length ≤ 10000
 arm:d.armed ≤ 9223372036854775807
def DkU (p:Nat) (lv uv:Value) (k:Nat):Prop:=k=p ∨ lv.ownBlock=some k ∨ uv.ownBlock=some k
theorem DkAt.far {E:Nat→Prop} {w x:World} {p:Nat} {d:Mod.Dk} {lv uv:Value} (h:DkAt w p d lv uv) (hf:Far E w x) (hE:∀ k,DkU p lv uv k→¬ E k):DkAt x p d lv uv :=
 ⟨hf.blk h.blk (hE p (.inl rfl)),ownsRow_keepB h.row (fun g hg => hf.rest g (World.ownsRow.lt h.row g hg).2 (hE g (.inr (.inl hg)))),h.un.far hf (fun g hg => hE g (.inr (.inr hg))),h.len,h.arm⟩
theorem DkAt.lt {w:World} {p:Nat} {d:Mod.Dk} {lv uv:Value} (h:DkAt w p d lv uv):∀ k,DkU p lv uv k→k < w.heap.size:=by
 rintro k (rfl | hk | hk)
 ·exact lt_of_block h.blk
 ·exact (World.ownsRow.lt h.row k hk).2
 ·exact h.un.lt k hk
theorem diskWrite_dead (w:World) (p:Nat) (lv uv:Value) (n:Int) (k:Nat) (S:List UInt8) (hb:w.heap[p]? = some (.cells #[lv,uv,.int .i64 n,.bool true] 233 (0,0))) :
  Calls Tryz.prog 169 #[.pointer (some ⟨p,0,none⟩),.int .i64 k,.agg (bv S).toArray] w fun r w' => r = .returned (.int .i64 3)∧Below w.heap.size w w':=by
 have hpl:=lt_of_block hb
 have c3:∀ ob,(w.alloc ob).cell? ⟨p,3,none⟩=some (.bool true):=fun ob => (World.cell?_alloc_lt w _ ⟨p,3,none⟩ hpl).trans (blk_cell (i:=3) hb)
 clear hb
 go_enter Tryz.func169,Tryz.ntmps169
 go_wp2
 go_ret
 exact ⟨rfl,(Below.refl _ _).alloc (Nat.le_refl _) _⟩
theorem diskWrite_fail (w:World) (p:Nat) (lv uv:Value) (k:Nat) (S:List UInt8) (hb:w.heap[p]? = some (.cells #[lv,uv,.int .i64 1,.bool false] 233 (0,0))) :
  Calls Tryz.prog 169 #[.pointer (some ⟨p,0,none⟩),.int .i64 k,.agg (bv S).toArray] w fun r w' => r = .returned (.int .i64 4)∧w'.heap[p]? = some (.cells #[lv,uv,.int .i64 1,.bool true] 233 (0,0))∧Far (fun j => j=p) w w':=by
 have hpl:=lt_of_block hb
 have hb2:∀ ob,(w.alloc ob).heap[p]? = some (.cells #[lv,uv,.int .i64 1,.bool false] 233 (0,0)):=fun ob => (hao _ _ hpl).trans hb
 have c3:∀ ob,(w.alloc ob).cell? ⟨p,3,none⟩=some (.bool false):=fun ob => blk_cell (i:=3) (hb2 ob)
 have c2:∀ ob,(w.alloc ob).cell? ⟨p,2,none⟩=some (.int .i64 1):=fun ob => blk_cell (i:=2) (hb2 ob)
 have f3:∀ ob,(w.alloc ob).frozen? ⟨p,3,none⟩=false:=fun ob => blk_free (i:=3) (hb2 ob)
 clear hb2
 replace hb:=hide hb
 go_enter Tryz.func169,Tryz.ntmps169
 go_wp2
 go_ret
 refine ⟨rfl,?_,?_⟩
 ·rw [hao _ _ (by rw [World.size_setCell];exact hpl)]
  have:=blk_set (j:=3) (v:=.bool true) (unhide hb)
  simpa using this
 ·exact (far_set w p 3 _).trans (far_below ((Below.refl _ _).alloc (Nat.le_refl _) _)) (fun _ _ h => h)
end Go.Proofs.YtamafdcnbcoegabGreat
namespace Go.Proofs.YtamafdcnbcoegabGreat
namespace Mod
structure Flow where
 base:Nat
 kept:List (ByteArray × Nat)
 held:List Nat
structure Ag where
 epoch:Nat
 ticks:Nat
 welcome:Bool
 fenced:Bool
 fl:Nat→Flow
def upd (f:Nat→Flow) (s:Nat) (x:Flow):Nat→Flow:=fun t => if t=s then x else f t
def Ag.room (a:Ag):Nat:=(a.fl 0).kept.length+(a.fl 1).kept.length+(a.fl 2).kept.length
def Ag.refuses (a:Ag) (stream:Int) (size:Nat):Int :=
 if stream < 0 ∨ 3 ≤ stream then 5 else if 20 < size then 6 else if 24 ≤ a.room then 7 else 0
def Ag.submit (a:Ag) (s:Nat) (body:ByteArray):Ag:={ a with fl:=upd a.fl s { a.fl s with kept:=(a.fl s).kept ++ [(body,0)] } }
def Ag.spool (a:Ag) (s:Nat):List ByteArray:=(a.fl s).kept.map (·.1)
def due (f:Flow) (ticks i sent:Nat):Bool:=!(f.held.contains (f.base+1+i)) && (sent == 0 || decide (sent+4 ≤ ticks))
def sendTo (epoch s:Nat) (f:Flow) (ticks:Nat):Nat→List (ByteArray × Nat) × List (List UInt8)
 | 0 => (f.kept,[])
 | i+1 =>
  let r:=sendTo epoch s f ticks i
  match f.kept[i]? with
  | none => r
  | some x => if due f ticks i x.2 then (r.1.set i (x.1,ticks),r.2 ++ [Wire.bytes 3 epoch s (f.base+1+i:Nat) x.1.data.toList]) else r
def Ag.gone (a:Ag) (s:Nat) (upTo:Int):Nat:=min (upTo - (a.fl s).base).toNat (a.fl s).kept.length
def Flow.drop (f:Flow) (n:Nat):Flow:={ f with base:=f.base+n,kept:=f.kept.drop n }
def dropTo (f:Nat→Flow) (n:Nat→Nat) (s:Nat):Nat→Flow:=fun t => if t < s then (f t).drop (n t) else f t
theorem dropTo_zero (f:Nat→Flow) (n:Nat→Nat):dropTo f n 0=f:=by funext t;simp [dropTo]
theorem dropTo_self (f:Nat→Flow) (n:Nat→Nat) (s:Nat):dropTo f n s s=f s:=by simp [dropTo]
theorem dropTo_succ (f:Nat→Flow) (n:Nat→Nat) (s:Nat):dropTo f n (s+1)=upd (dropTo f n s) s ((f s).drop (n s)):=by
 funext t
 unfold dropTo upd
 by_cases h:t=s
 ·subst h;simp
 ·by_cases h2:t < s
  ·simp [h,h2,show t < s+1 by omega]
  ·simp [h,h2,show ¬ t < s+1 by omega]
def Ag.drop (a:Ag) (n:Nat→Nat):Ag:={ a with fl:=dropTo a.fl n 3 }
def Ag.says (a:Ag) (kind epoch stream seq:Int) (body:ByteArray) (s:Nat):Nat :=
 if epoch ≠ a.epoch then 0 else if kind=2 then a.gone s (Wire.numAt body.data.toList (4 * s)) else if kind=4∧stream=s∧a.welcome=true then a.gone s seq else 0
def fresh (f:Nat→Flow) (s:Nat):Nat→Flow:=fun t => if t < s then { f t with kept:=(f t).kept.map fun r => (r.1,0),held:=[] } else f t
def bitsOf (seq:Nat) (c:Nat):Nat→List Nat
 | 0 => []
 | i+1 => bitsOf seq c i ++ (if c / 2 ^ i % 2=1 then [seq+2+i] else [])
def Ag.ackSeq (a:Ag) (s:Nat) (q:Int):Nat:=min q.toNat ((a.fl s).base+(a.fl s).kept.length)
def Ag.deliver (a:Ag) (k e st q:Int) (b:ByteArray):Ag :=
 if k=5∧(a.epoch:Int) < e then { a with fenced:=true }
 else if e ≠ a.epoch then a
 else if k=5 then { a with welcome:=false }
 else if k=2 then { a.drop (a.says k e st q b) with welcome:=true,fl:=fresh (a.drop (a.says k e st q b)).fl 3 }
 else if k=4 then
  if a.welcome=false ∨ a.ackSeq st.toNat q < (a.fl st.toNat).base then a
  else { a.drop (a.says k e st q b) with fl:=upd (a.drop (a.says k e st q b)).fl st.toNat { (a.drop (a.says k e st q b)).fl st.toNat with held:=bitsOf (a.ackSeq st.toNat q) (b.data.toList.getD 0 0).toNat 3 } }
 else a
def sendFl (epoch ticks:Nat) (f:Nat→Flow) (s:Nat):Nat→Flow:=fun t => if t < s then { f t with kept:=(sendTo epoch t (f t) ticks 4).1 } else f t
def sendOut (epoch ticks:Nat) (f:Nat→Flow):Nat→List (List UInt8)
 | 0 => []
 | s+1 => sendOut epoch ticks f s ++ (sendTo epoch s (f s) ticks 4).2
def Ag.tick (a:Ag):Ag × List (List UInt8) :=
 if a.fenced=true then ({ a with ticks:=a.ticks+1 },[])
 else if a.welcome=false then ({ a with ticks:=a.ticks+1 },[Wire.bytes 1 a.epoch 0 0 []])
 else ({ a with ticks:=a.ticks+1,fl:=sendFl a.epoch (a.ticks+1) a.fl 3 },sendOut a.epoch (a.ticks+1) a.fl 3)
end Mod
end Go.Proofs.YtamafdcnbcoegabGreat
namespace Go.Proofs.YtamafdcnbcoegabGreat
open Go.RowKit
def numCells (l:List Nat):List Value:=l.map fun n:Nat => .int .i64 (n:Int)
structure RRest where
 dead:Bool
 g0:Int
 g1:Int
 g2:Int
 st:Int
 ex:Value
end Go.Proofs.YtamafdcnbcoegabGreat
namespace Go.Proofs.YtamafdcnbcoegabGreat
open Go.RowKit
theorem info_parts2 {P:Program} {e:TypeId} {z:Value} {size bytes:Nat} (h:(P.info? e).map (fun i => (i.zero,i.size,i.bytes))=some (some z,size,bytes)):∃ i,P.info? e=some i∧i.zero=some z∧i.size=size∧i.bytes=bytes:=by
 cases hi:P.info? e with
 | none => rw [hi] at h;cases h
 | some i =>
  rw [hi] at h
  injection h with h
  injection h with h1 h2
  injection h2 with h2 h3
  exact ⟨i,rfl,h1,h2,h3⟩
theorem wpList_app_o {ops:Array Oper} {rest:List Oper} {o:Oper} {a:Act} {Q:Exit→Act→World→Prop} {w:World} (hgd:o.guard=none) (s x:Operand) (t:TypeId) (ho:o.op = .call { callee:=.builtin .append,args:=#[s,x],argTypes:=#[t,t] })
  (e:TypeId) (z:Value) (size bytes:Nat) (ht:Tryz.prog.underlying t=some (.slice e)) (hinfo:(Tryz.prog.info? e).map (fun i => (i.zero,i.size,i.bytes))=some (some z,size,bytes)) (hzs:z.cells.size=size)
  (v:Value) (n:Nat) (xs:List Value) (hown:RowO w e size v n xs) (hs:a.eval s=v) (ad:Addr) (m c:Nat) (news:List Value) (hx:a.eval x = .slice (some ad) m c) (hl:news.length=m * size) (hnews:∀ j u,news[j]? = some u→w.cell? (ad.add j)=some u)
  (h1:∀ u ∈ news,u.oneCell' = true) (hm:0 < m) (hb:(n+m) * bytes ≤ 140737488355328) (h63:n+m ≤ 140737488355328)
  (h:∀ v' w',RowO w' e size v' (n+m) (xs ++ news)→App w w' v v' → wpList Tryz.prog ops Q rest (a.put o.dst v') w'):wpList Tryz.prog ops Q (o :: rest) a w:=by
 obtain ⟨i0,hi,hz0,hz1,hz2⟩:=info_parts2 hinfo
 obtain ⟨v',w',hr,h2,h3⟩:=run_append_o (P:=Tryz.prog) w t o.type e i0 z size bytes ht hi hz0 hz1 hz2 hzs v n xs hown ad m c news hl hnews h1 hm hb h63
 refine wpList_plain hgd fun _ hK => ?_
 unfold Oper.wp execOp
 simp only [ho,resolve,invoke,builtin,Sem.run_bind,Sem.run_pure,Result.andThen_ok,List.map_toArray,List.map_cons,List.map_nil,hs,hx,hr]
 exact hK _ _ (h v' w' h2 h3)
end Go.Proofs.YtamafdcnbcoegabGreat
namespace Go.Proofs.YtamafdcnbcoegabGreat
open Go.RowKit
def strs (l:List ByteArray):List Value:=l.map .string
theorem strs_length (l:List ByteArray):(strs l).length=l.length:=by simp [strs]
theorem infoStr:(Tryz.prog.info? 9).map (fun i => (i.zero,i.size,i.bytes))=some (some (.string ⟨#[]⟩),1,16):=by kernel_rfl
end Go.Proofs.YtamafdcnbcoegabGreat
namespace Go.Proofs.YtamafdcnbcoegabGreat
namespace Mod
structure Sk where
 epoch:Nat
 logs:Nat→List ByteArray
 held:List (Nat × Nat × ByteArray)
def Sk.count (s:Sk):Nat:=(s.logs 0).length+(s.logs 1).length+(s.logs 2).length
def ixFrom (st q:Nat):Nat→List (Nat × Nat × ByteArray)→Option Nat
 | _,[] => none
 | i,h :: l => if h.1=st∧h.2.1=q then some i else ixFrom st q (i+1) l
def Sk.ix (s:Sk) (st q:Nat):Option Nat:=ixFrom st q 0 s.held
def ixInt:Option Nat→Int
 | none => -1
 | some i => i
def Sk.commitFrom (a:Sk) (st q n:Nat):Nat→List ByteArray→List ByteArray
 | 0,out => out
 | f+1,out => if n+out.length < 120 then
   match a.ix st (q+out.length) with
   | none => out
   | some i => Sk.commitFrom a st q n f (out ++ [(a.held.getD i (0,0,⟨#[]⟩)).2.2])
  else out
def Sk.commits (a:Sk) (k e st q:Int) (b:ByteArray):List ByteArray :=
 if k ≠ 3 ∨ e ≠ a.epoch ∨ q ≠ (a.logs st.toNat).length+1 then [] else if 120 ≤ a.count then [] else a.commitFrom st.toNat q.toNat a.count 120 [b]
theorem Sk.commitFrom_stop {a:Sk} {st q n f:Nat} {out:List ByteArray} (h:¬ n+out.length < 120):a.commitFrom st q n f out=out:=by
 cases f with
 | zero => rfl
 | succ f => rw [Sk.commitFrom,if_neg h]
theorem Sk.commitFrom_none {a:Sk} {st q n f:Nat} {out:List ByteArray} (h:n+out.length < 120) (hi:a.ix st (q+out.length)=none):a.commitFrom st q n f out=out:=by
 cases f with
 | zero => rfl
 | succ f => rw [Sk.commitFrom,if_pos h,hi]
theorem Sk.commitFrom_some {a:Sk} {st q n f i:Nat} {out:List ByteArray} (h:n+out.length < 120) (hi:a.ix st (q+out.length)=some i):a.commitFrom st q n (f+1) out=a.commitFrom st q n f (out ++ [(a.held.getD i (0,0,⟨#[]⟩)).2.2]):=by
 rw [Sk.commitFrom,if_pos h,hi]
def keeps (st up:Nat) (h:Nat × Nat × ByteArray):Bool:=!(decide (h.1=st)) || decide (up < h.2.1)
def Sk.forget (a:Sk) (st up:Nat):Sk:={ a with held:=a.held.filter (keeps st up) }
end Mod
end Go.Proofs.YtamafdcnbcoegabGreat
namespace Go.Proofs.YtamafdcnbcoegabGreat
open Go.RowKit
theorem own_shapeB {B:Nat} {w:World} {e:TypeId} {v:Value} {n:Nat} {xs:List Value} (h:w.ownsRow B e 1 v n xs) (hn:0 < n):∃ g cap,v = .slice (some ⟨g,0,none⟩) n cap:=by
 obtain ⟨_,h2⟩:=h
 rcases h2 with ⟨_,h2⟩ | ⟨g,cap,cur,e,_⟩
 ·omega
 ·exact ⟨g,cap,e⟩
theorem own0 {B:Nat} {w:World} {e:TypeId} {v:Value} {n:Nat} {xs:List Value} (h:w.ownsRow B e 1 v n xs):w.ownsRow 0 e 1 v n xs:=by
 obtain ⟨h1,h2⟩:=h
 refine ⟨h1,?_⟩
 rcases h2 with h2 | ⟨g,cap,cur,e,hB,r⟩
 ·exact .inl h2
 ·exact .inr ⟨g,cap,cur,e,Nat.zero_le _,r⟩
end Go.Proofs.YtamafdcnbcoegabGreat
namespace Go.Proofs.YtamafdcnbcoegabGreat
open Go.RowKit
theorem own_rowO {B:Nat} {w:World} {e:TypeId} {size n:Nat} {v:Value} {xs:List Value} (h:w.ownsRow B e size v n xs):RowO w e size v n xs:=by
 obtain ⟨h1,h2⟩:=h
 refine ⟨h1,?_⟩
 rcases h2 with h2 | ⟨g,cap,cur,rfl,_,hh,hn,hc,hs,ht⟩
 ·exact .inl h2
 ·exact .inr ⟨g,0,cap,cur,rfl,hh,hn,hc,by omega,by simpa using ht⟩
end Go.Proofs.YtamafdcnbcoegabGreat
namespace Go.Proofs.YtamafdcnbcoegabGreat
open Go.RowKit
theorem commitFrom_ne {a:Mod.Sk} {st q n:Nat}:∀ {f:Nat} {out:List ByteArray},out ≠ [] → a.commitFrom st q n f out ≠ []
 | 0,_,h => h
 | f+1,out,h => by
  rw [Mod.Sk.commitFrom]
  split
  ·split
   ·exact h
   ·exact commitFrom_ne (by simp)
  ·exact h
theorem commitFrom_len {a:Mod.Sk} {st q n:Nat}:∀ {f:Nat} {out:List ByteArray},n+out.length ≤ 120→n+(a.commitFrom st q n f out).length ≤ 120
 | 0,_,h => h
 | f+1,out,h => by
  rw [Mod.Sk.commitFrom]
  split
  ·split
   ·exact h
   ·exact commitFrom_len (by simp;omega)
  ·exact h
theorem commits_room {a:Mod.Sk} (k e:Int) (s qn:Nat) (b:ByteArray) (h:a.count ≤ 120):a.count+(a.commits k e s qn b).length ≤ 120:=by
 rw [Mod.Sk.commits]
 split
 ·simpa using h
 ·split
  ·simpa using h
  ·exact commitFrom_len (by simp;omega)
end Go.Proofs.YtamafdcnbcoegabGreat
namespace Go.Proofs.YtamafdcnbcoegabGreat
open Go.RowKit
theorem step_app_o {ops:Array Oper} {o:Oper} {a:Act} {K:Act→World→Prop} {Q:Exit→Act→World→Prop} {E:Prop} {w:World} (hgd:o.guard=none) (s x:Operand) (t:TypeId) (ho:o.op = .call { callee:=.builtin .append,args:=#[s,x],argTypes:=#[t,t] })
  (e:TypeId) (z:Value) (size bytes:Nat) (ht:Tryz.prog.underlying t=some (.slice e)) (hinfo:(Tryz.prog.info? e).map (fun i => (i.zero,i.size,i.bytes))=some (some z,size,bytes)) (hzs:z.cells.size=size)
  (v:Value) (n:Nat) (xs:List Value) (hown:RowO w e size v n xs) (hs:a.eval s=v) (ad:Addr) (m c:Nat) (news:List Value) (hx:a.eval x = .slice (some ad) m c) (hl:news.length=m * size) (hnews:∀ j u,news[j]? = some u→w.cell? (ad.add j)=some u)
  (h1:∀ u ∈ news,u.oneCell' = true) (hm:0 < m) (hb:(n+m) * bytes ≤ 140737488355328) (h63:n+m ≤ 140737488355328)
  (h:∀ v' w',RowO w' e size v' (n+m) (xs ++ news)→App w w' v v' → K (a.put o.dst v') w'):if Region.wanted o (yielded ops a.tmps)=true then o.wp Tryz.prog a w K Q else E:=by
 rw [if_pos (by simp [Region.wanted,hgd])]
 obtain ⟨i0,hi,hz0,hz1,hz2⟩:=info_parts2 hinfo
 obtain ⟨v',w',hr,h2,h3⟩:=run_append_o (P:=Tryz.prog) w t o.type e i0 z size bytes ht hi hz0 hz1 hz2 hzs v n xs hown ad m c news hl hnews h1 hm hb h63
 unfold Oper.wp execOp
 simp only [ho,resolve,invoke,builtin,Sem.run_bind,Sem.run_pure,Result.andThen_ok,List.map_toArray,List.map_cons,List.map_nil,hs,hx,hr]
 exact h v' w' h2 h3
def ackBits (a:Mod.Sk) (s up:Nat):Nat→Nat
 | 0 => 0
 | i+1 => ackBits a s up i+(if (a.ix s (up+2+i)).isSome then 2 ^ i else 0)
theorem ackBits_le (a:Mod.Sk) (s up:Nat):ackBits a s up 3 ≤ 7:=by
 simp only [ackBits]
 split <;> split <;> split <;> omega
def ackBody (a:Mod.Sk) (s up:Nat):ByteArray:=⟨#[UInt8.ofNat (ackBits a s up 3)]⟩
theorem ack_proper {a:Mod.Sk} {s up:Nat} (he:a.epoch ≤ 2147483647) (hs:s < 3) (hu:up ≤ 2147483647):Wire.proper 4 a.epoch s up (ackBody a s up)=true:=by
 have h7:=ackBits_le a s up
 have e1:Wire.isNum (a.epoch:Int)=true:=by simp [Wire.isNum];omega
 have e2:Wire.isNum (up:Int)=true:=by simp [Wire.isNum];omega
 have e3:Wire.isStr (s:Int)=true:=by simp [Wire.isStr];omega
 have e4:Wire.ackBody (ackBody a s up)=true:=by
  have:(UInt8.ofNat (ackBits a s up 3)).toNat=ackBits a s up 3:=by simp [UInt8.toNat_ofNat'];omega
  simp [Wire.ackBody,ackBody,this,ByteArray.size]
  omega
 simp [Wire.proper,e1,e2,e3,e4]
end Go.Proofs.YtamafdcnbcoegabGreat
namespace Go.Proofs.YtamafdcnbcoegabGreat
open Go.RowKit
open Go.MapKept
def MapAt (w:World) (b:Nat) (f:Int→Option Value):Prop :=
 ∃ es clock,w.heap[b]? = some (.map es clock)∧(∀ x ∈ es.toList,IsKey (.int .i64) x.key)∧(es.toList.map (·.key)).Nodup ∧
  ∀ (k:Int) (v:Value),f k=some v ↔ ∃ x ∈ es.toList,x.key = .int .i64 k∧x.val=v
theorem MapAt.keep {w w':World} {b:Nat} {f:Int→Option Value} (h:MapAt w b f) (hk:w'.heap[b]? = w.heap[b]?):MapAt w' b f:=by
 obtain ⟨es,clock,hb,r⟩:=h
 exact ⟨es,clock,hk.trans hb,r⟩
theorem MapAt.lt {w:World} {b:Nat} {f:Int→Option Value} (h:MapAt w b f):b < w.heap.size:=by
 obtain ⟨es,clock,hb,r⟩:=h
 exact (Array.getElem?_eq_some_iff.1 hb).1
theorem MapAt.not_cells {w:World} {b:Nat} {f:Int→Option Value} {c:Array Value} {t:TypeId} {fr:Nat × Nat} (h:MapAt w b f) (hc:w.heap[b]? = some (.cells c t fr)):False:=by
 obtain ⟨es,clock,hb,r⟩:=h
 rw [hb] at hc
 cases hc
theorem mapAt_new (w:World):MapAt (w.alloc (.map #[] 0)) w.heap.size fun _ => none :=
 ⟨#[],0,heap_alloc_new w _,by simp,by simp,by simp⟩
def MapV (w:World) (v:Value) (f:Int→Option Value):Prop:=(v = .map none∧f=fun _ => none) ∨ ∃ b,v = .map (some b)∧MapAt w b f
def mapBlock:Value→Option Nat
 | .map b => b
 | _ => none
theorem MapV.keep {w w':World} {v:Value} {f:Int→Option Value} (h:MapV w v f) (hk:∀ b,mapBlock v=some b→w'.heap[b]? = w.heap[b]?):MapV w' v f:=by
 rcases h with h | ⟨b,rfl,h⟩
 ·exact .inl h
 ·exact .inr ⟨b,rfl,h.keep (hk b rfl)⟩
theorem MapV.lt {w:World} {v:Value} {f:Int→Option Value} (h:MapV w v f):∀ b,mapBlock v=some b→b < w.heap.size:=by
 intro b hb
 rcases h with ⟨rfl,_⟩ | ⟨b',rfl,h⟩
 ·cases hb
 ·cases hb;exact h.lt
theorem isKeyI (k:Int):IsKey (.int .i64) (.int .i64 k):=by simp [IsKey]
theorem look_fits {es:List MapEntry} {f:Int→Option Value} (hk:∀ x ∈ es,IsKey (.int .i64) x.key) (hf:∀ (k:Int) (v:Value),f k=some v ↔ ∃ x ∈ es,x.key = .int .i64 k∧x.val=v) (k:Int) :
  (Instr.findNow (.int .i64) (.int .i64 k) es 0=some none∧f k=none∧∀ x ∈ es,x.key ≠ .int .i64 k) ∨
  ∃ j e,Instr.findNow (.int .i64) (.int .i64 k) es 0=some (some (j,e.val))∧es[j]? = some e∧e.key = .int .i64 k∧f k=some e.val:=by
 rcases findNow_spec (isKeyI k) es 0 hk with ⟨h1,h2⟩ | ⟨j,e,h1,h2,h3⟩
 ·refine .inl ⟨h1,?_,h2⟩
  cases hv:f k with
  | none => rfl
  | some v =>
   obtain ⟨x,hx,hxk,_⟩:=(hf k v).1 hv
   exact absurd hxk (h2 x hx)
 ·exact .inr ⟨j,e,by rw [h1];simp,h2,h3,(hf k e.val).2 ⟨e,List.mem_of_getElem? h2,h3,rfl⟩⟩
theorem run_lookup_i {P:Program} {w:World} {t K E:TypeId} (ht:P.underlying t=some (.map K E)) (hK:P.underlying K=some (.int .i64)) {z:Value} (hz:(zeroValue E).run P w = .ok z w) {v:Value} {f:Int→Option Value} (h:MapV w v f) (k:Int) :
  (Instr.lookup t v (.int .i64 k) true).run P w = .ok (.tuple #[(f k).getD z,.bool (f k).isSome]) w∧(Instr.lookup t v (.int .i64 k) false).run P w = .ok ((f k).getD z) w:=by
 rcases h with ⟨rfl,rfl⟩ | ⟨b,rfl,es,clock,hb,hk,hn,hf⟩
 ·have h1:Instr.findNow (.int .i64) (.int .i64 k) [] 0=some none:=rfl
  constructor <;> simp [Instr.lookup,run_underlying ht,run_checkKey hK (isKeyI k),run_findKey hK h1,hz,Result.andThen]
 ·rcases look_fits hk hf k with ⟨h1,h2,_⟩ | ⟨j,e,h1,h2,h3,h4⟩
  ·constructor <;> simp [Instr.lookup,run_underlying ht,MapKept.run_getObj_map hb,run_checkKey hK (isKeyI k),run_findKey hK h1,hz,h2,Result.andThen]
  ·constructor <;> simp [Instr.lookup,run_underlying ht,MapKept.run_getObj_map hb,run_checkKey hK (isKeyI k),run_findKey hK h1,h4,Result.andThen]
def putF (f:Int→Option Value) (k:Int) (v:Value):Int→Option Value:=fun j => if j=k then some v else f j
def delF (f:Int→Option Value) (k:Int):Int→Option Value:=fun j => if j=k then none else f j
theorem set_fits {es:List MapEntry} {f:Int→Option Value} (hn:(es.map (·.key)).Nodup) (hk:∀ x ∈ es,IsKey (.int .i64) x.key) (hf:∀ (k:Int) (v:Value),f k=some v ↔ ∃ x ∈ es,x.key = .int .i64 k∧x.val=v) {j:Nat} {e:MapEntry} {k:Int} (hj:es[j]? = some e) (he:e.key = .int .i64 k) (v:Value) :
  (∀ x ∈ es.set j { e with key:=.int .i64 k,val:=v },IsKey (.int .i64) x.key)∧((es.set j { e with key:=.int .i64 k,val:=v }).map (·.key)).Nodup ∧
   ∀ (k':Int) (v':Value),putF f k v k' = some v' ↔ ∃ x ∈ es.set j { e with key:=.int .i64 k,val:=v },x.key = .int .i64 k' ∧ x.val=v':=by
 have hjl:j < es.length:=(List.getElem?_eq_some_iff.1 hj).1
 have hkeys:(es.set j { e with key:=.int .i64 k,val:=v }).map (·.key)=es.map (·.key):=by
  rw [List.map_set]
  apply List.ext_getElem?
  intro i
  rw [List.getElem?_set]
  by_cases hij:j=i
  ·subst hij
   have:=Option.some.inj ((List.getElem?_eq_getElem hjl).symm.trans hj)
   simp [hjl,this,he]
  ·simp [hij]
 have hinj:∀ (i:Nat) (x:MapEntry),es[i]? = some x→x.key = .int .i64 k→i=j:=by
  intro i x hi hx
  by_cases hij:i=j
  ·exact hij
  ·have hil:i < es.length:=(List.getElem?_eq_some_iff.1 hi).1
   have h0:=List.getElem_inj (xs:=es.map (·.key)) (i:=i) (j:=j) (h₀:=by simpa using hil) (h₁:=by simpa using hjl) hn
   have e1:(es.map (·.key))[i]'(by simpa using hil) = .int .i64 k:=by
    rw [List.getElem_map,← hx];congr 1;rw [List.getElem?_eq_getElem hil] at hi;exact Option.some.inj hi
   have e2:(es.map (·.key))[j]'(by simpa using hjl) = .int .i64 k:=by
    rw [List.getElem_map,← he];congr 1;rw [List.getElem?_eq_getElem hjl] at hj;exact Option.some.inj hj
   exact h0.1 (e1.trans e2.symm)
 refine ⟨fun x hx => ?_,hkeys ▸ hn,fun k' v' => ?_⟩
 ·rcases List.mem_or_eq_of_mem_set hx with h | h
  ·exact hk x h
  ·subst h;exact isKeyI k
 ·unfold putF
  by_cases hkk:k' = k
  ·subst hkk
   rw [if_pos rfl]
   constructor
   ·rintro ⟨⟩
    exact ⟨_,List.mem_set hjl _,rfl,rfl⟩
   ·rintro ⟨x,hx,hxk,rfl⟩
    obtain ⟨i,hi,ei⟩:=List.getElem_of_mem hx
    rw [List.getElem_set] at ei
    split at ei
    ·rw [← ei]
    ·rename_i hne
     have hil:i < es.length:=by simpa using hi
     exact absurd (hinj i x (by rw [List.getElem?_eq_getElem hil,ei]) hxk).symm hne
  ·rw [if_neg hkk,hf]
   constructor
   ·rintro ⟨x,hx,hxk,rfl⟩
    obtain ⟨i,hil,ei⟩:=List.getElem_of_mem hx
    have hne:¬ j=i:=by
     rintro rfl
     rw [List.getElem?_eq_getElem hil,ei] at hj
     cases hj
     rw [he] at hxk
     injection hxk with _ h
     exact hkk h.symm
    refine ⟨x,?_,hxk,rfl⟩
    have:=List.getElem_set_ne hne (a:={ e with key:=.int .i64 k,val:=v }) (hj:=by simpa using hil)
    rw [← ei,← this]
    exact List.getElem_mem _
   ·rintro ⟨x,hx,hxk,rfl⟩
    rcases List.mem_or_eq_of_mem_set hx with h | h
    ·exact ⟨x,h,hxk,rfl⟩
    ·subst h
     injection hxk with _ h
     exact absurd h.symm hkk
theorem run_update_i {P:Program} {w:World} {t K E:TypeId} (ht:P.underlying t=some (.map K E)) (hK:P.underlying K=some (.int .i64)) {b:Nat} {f:Int→Option Value} (h:MapAt w b f) (k:Int) (v:Value) :
  ∃ o,(∀ y:World,y.heap=w.heap→(Instr.mapUpdate t (.map (some b)) (.int .i64 k) v).run P y = .ok () { y with heap:=y.heap.setIfInBounds b o })∧MapAt { w with heap:=w.heap.setIfInBounds b o } b (putF f k v):=by
 obtain ⟨es,clock,hb,hk,hn,hf⟩:=h
 have hlt:b < w.heap.size:=(Array.getElem?_eq_some_iff.1 hb).1
 have hset:∀ o,({ w with heap:=w.heap.setIfInBounds b o }:World).heap[b]? = some o:=fun o => by simp [hlt]
 rcases look_fits hk hf k with ⟨h1,h2,h3⟩ | ⟨j,e,h1,h2,h3,h4⟩
 ·refine ⟨.map (es.push ⟨.int .i64 k,v,clock⟩) (clock+1),?_,es.push ⟨.int .i64 k,v,clock⟩,clock+1,hset _,?_,?_,?_⟩
  ·intro y hy
   have hb:y.heap[b]? = some (.map es clock):=by rw [hy];exact hb
   simp [Instr.mapUpdate,run_underlying ht,MapKept.run_getObj_map hb,run_checkKey hK (isKeyI k),run_findKey hK h1,run_setObj_map _ hb,Result.andThen]
  ·intro x hx
   simp only [Array.toList_push,List.mem_append,List.mem_singleton] at hx
   rcases hx with hx | rfl
   ·exact hk x hx
   ·exact isKeyI k
  ·simp only [Array.toList_push,List.map_append,List.map_cons,List.map_nil]
   rw [List.nodup_append]
   refine ⟨hn,by simp,?_⟩
   rintro a ha c hc rfl
   simp only [List.mem_singleton] at hc
   obtain ⟨x,hx,rfl⟩:=List.mem_map.1 ha
   exact h3 x hx hc
  ·intro k' v'
   unfold putF
   simp only [Array.toList_push,List.mem_append,List.mem_singleton]
   by_cases hkk:k' = k
   ·subst hkk
    rw [if_pos rfl]
    constructor
    ·rintro ⟨⟩
     exact ⟨_,.inr rfl,rfl,rfl⟩
    ·rintro ⟨x,hx | rfl,hxk,rfl⟩
     ·exact absurd hxk (h3 x hx)
     ·rfl
   ·rw [if_neg hkk,hf]
    constructor
    ·rintro ⟨x,hx,r⟩
     exact ⟨x,.inl hx,r⟩
    ·rintro ⟨x,hx | rfl,hxk,r⟩
     ·exact ⟨x,hx,hxk,r⟩
     ·injection hxk with _ h
      exact absurd h.symm hkk
 ·have hj:es[j]? = some e:=by simpa using h2
  have hlist:(es.modify j (fun e' => { e' with key:=.int .i64 k,val:=v })).toList=es.toList.set j { e with key:=.int .i64 k,val:=v }:=by
   rw [Array.toList_modify]
   apply List.ext_getElem?
   intro i
   rw [List.getElem?_set,List.getElem?_modify]
   by_cases hij:j=i
   ·subst hij
    have hjl:j < es.toList.length:=(List.getElem?_eq_some_iff.1 h2).1
    rw [h2]
    simp at hjl
    simp [hjl]
   ·simp [hij]
  have hs:∀ w,(Instr.keyThatStays (.int .i64 k) (.int .i64 k)).run P w = .ok (.int .i64 k) w:=fun w => by simp [Instr.keyThatStays,Instr.sameBits]
  obtain ⟨g1,g2,g3⟩:=set_fits hn hk hf h2 h3 v
  refine ⟨.map (es.modify j (fun e' => { e' with key:=.int .i64 k,val:=v })) clock,?_,_,clock,hset _,?_,?_,?_⟩
  ·intro y hy
   have hb:y.heap[b]? = some (.map es clock):=by rw [hy];exact hb
   simp [Instr.mapUpdate,run_underlying ht,MapKept.run_getObj_map hb,run_checkKey hK (isKeyI k),run_findKey hK h1,hj,h3,hs,run_setObj_map _ hb,Result.andThen]
  ·rw [hlist];exact g1
  ·rw [hlist];exact g2
  ·rw [hlist];exact g3
theorem run_delete_i {P:Program} {w:World} {t K E K':TypeId} (ht:P.underlying t=some (.map K E)) (hK:P.underlying K=some (.int .i64)) {b:Nat} {f:Int→Option Value} (h:MapAt w b f) (k:Int) :
  ∃ o,(∀ (ty:TypeId) (y:World),y.heap=w.heap→(Builtin.delete_ #[t,K'] ty #[.map (some b),.int .i64 k]).run P y = .ok (.tuple #[]) { y with heap:=y.heap.setIfInBounds b o })∧MapAt { w with heap:=w.heap.setIfInBounds b o } b (delF f k):=by
 obtain ⟨es,clock,hb,hk,hn,hf⟩:=h
 have hlt:b < w.heap.size:=(Array.getElem?_eq_some_iff.1 hb).1
 have hset:∀ o,({ w with heap:=w.heap.setIfInBounds b o }:World).heap[b]? = some o:=fun o => by simp [hlt]
 rcases look_fits hk hf k with ⟨h1,h2,h3⟩ | ⟨j,e,h1,h2,h3,h4⟩
 ·refine ⟨.map es clock,?_,es,clock,hset _,hk,hn,?_⟩
  ·intro ty y hy
   have hb:y.heap[b]? = some (.map es clock):=by rw [hy];exact hb
   simp [Builtin.delete_,run_underlying ht,MapKept.run_getObj_map hb,run_checkKey hK (isKeyI k),run_findKey hK h1,run_setObj_map _ hb,Result.andThen]
  ·intro k' v'
   unfold delF
   by_cases hkk:k' = k
   ·subst hkk
    rw [if_pos rfl]
    constructor
    ·rintro ⟨⟩
    ·rintro ⟨x,hx,hxk,_⟩
     exact absurd hxk (h3 x hx)
   ·rw [if_neg hkk,hf]
 ·have hjl:j < es.toList.length:=(List.getElem?_eq_some_iff.1 h2).1
  have hlist:(es.eraseIdxIfInBounds j).toList=es.toList.eraseIdx j:=by
   have:j < es.size:=by simpa using hjl
   unfold Array.eraseIdxIfInBounds
   rw [dif_pos this,Array.toList_eraseIdx]
  have hsub:(es.toList.eraseIdx j).Sublist es.toList:=List.eraseIdx_sublist _ _
  have hno:∀ x ∈ es.toList.eraseIdx j,x.key ≠ .int .i64 k:=by
   intro x hx hxk
   obtain ⟨i,hne,hi⟩:=List.mem_eraseIdx_iff_getElem?.1 hx
   have hil:i < es.toList.length:=(List.getElem?_eq_some_iff.1 hi).1
   have h0:=List.getElem_inj (xs:=es.toList.map (·.key)) (i:=i) (j:=j) (h₀:=by simpa using hil) (h₁:=by simpa using hjl) hn
   refine hne (h0.1 ?_)
   rw [List.getElem_map,List.getElem_map]
   rw [List.getElem?_eq_getElem hil] at hi
   rw [List.getElem?_eq_getElem hjl] at h2
   rw [Option.some.inj hi,Option.some.inj h2,hxk,h3]
  refine ⟨.map (es.eraseIdxIfInBounds j) clock,?_,_,clock,hset _,?_,?_,?_⟩
  ·intro ty y hy
   have hb:y.heap[b]? = some (.map es clock):=by rw [hy];exact hb
   simp [Builtin.delete_,run_underlying ht,MapKept.run_getObj_map hb,run_checkKey hK (isKeyI k),run_findKey hK h1,run_setObj_map _ hb,Result.andThen]
  ·rw [hlist];exact fun x hx => hk x (hsub.subset hx)
  ·rw [hlist];exact (hsub.map _).nodup hn
  ·rw [hlist]
   intro k' v'
   unfold delF
   by_cases hkk:k' = k
   ·subst hkk
    rw [if_pos rfl]
    constructor
    ·rintro ⟨⟩
    ·rintro ⟨x,hx,hxk,_⟩
     exact absurd hxk (hno x hx)
   ·rw [if_neg hkk,hf]
    constructor
    ·rintro ⟨x,hx,hxk,r⟩
     obtain ⟨i,hi⟩:=List.getElem?_of_mem hx
     refine ⟨x,List.mem_eraseIdx_iff_getElem?.2 ⟨i,?_,hi⟩,hxk,r⟩
     rintro rfl
     rw [h2] at hi
     cases hi
     rw [h3] at hxk
     injection hxk with _ h
     exact hkk h.symm
    ·rintro ⟨x,hx,r⟩
     exact ⟨x,hsub.subset hx,r⟩
theorem run_clear_m {P:Program} {w:World} {t K E:TypeId} (ht:P.underlying t=some (.map K E)) {b:Nat} {f:Int→Option Value} (h:MapAt w b f) :
  ∃ o,(∀ (ty:TypeId) (y:World),y.heap=w.heap→(Builtin.clear_ #[t] ty #[.map (some b)]).run P y = .ok (.tuple #[]) { y with heap:=y.heap.setIfInBounds b o })∧MapAt { w with heap:=w.heap.setIfInBounds b o } b (fun _ => none):=by
 obtain ⟨es,clock,hb,hk,hn,hf⟩:=h
 have hlt:b < w.heap.size:=(Array.getElem?_eq_some_iff.1 hb).1
 refine ⟨.map #[] clock,?_,#[],clock,by simp [hlt],by simp,by simp,by simp⟩
 intro ty y hy
 have hb:y.heap[b]? = some (.map es clock):=by rw [hy];exact hb
 simp [Builtin.clear_,run_underlying ht,MapKept.run_getObj_map hb,run_setObj_map _ hb,Result.andThen]
theorem far_block {w:World} (b:Nat) (o:Obj):Far (fun k => k=b) w { w with heap:=w.heap.setIfInBounds b o } :=
 ⟨rfl,rfl,rfl,by simp,fun k _ he => by
  show (w.heap.setIfInBounds b o)[k]? = _
  rw [Array.getElem?_setIfInBounds_ne (fun e => he e.symm)]⟩
theorem run_clear_n {P:Program} {w:World} {t K E ty:TypeId} (ht:P.underlying t=some (.map K E)):(Builtin.clear_ #[t] ty #[.map none]).run P w = .ok (.tuple #[]) w:=by
 simp [Builtin.clear_,run_underlying ht,Result.andThen]
end Go.Proofs.YtamafdcnbcoegabGreat
namespace Go.Proofs
open Go.Shelf
open Go.RowKit in
def Tryz.laysM316_ren:Go.Shelf.Ren:=⟨fun | 316 => 127 | n => n,fun | 9 => 9 | 3 => 3 | 4 => 4 | 37 => 48 | 0 => 0 | 127 => 252 | 5 => 5 | n => n,fun | n => n⟩
theorem Tryz.laysM316:Go.Proofs.LaysM.n316 Tryz.prog Tryz.laysM316_ren:={
 mixed:=by kernel_rfl
 f316:=Tryz.func127.trans (congrArg some (by kernel_rfl))
 t0:=Tryz.underlying0
 a0:=Tryz.isAgg0
 z0:=Tryz.sizeOf0
 v0:=Tryz.zeroValue0
 t3:=Tryz.underlying3
 a3:=Tryz.isAgg3
 z3:=Tryz.sizeOf3
 v3:=Tryz.zeroValue3
 t4:=Tryz.underlying4
 a4:=Tryz.isAgg4
 z4:=Tryz.sizeOf4
 v4:=Tryz.zeroValue4
 t9:=Tryz.underlying9
 a9:=Tryz.isAgg9
 z9:=Tryz.sizeOf9
 v9:=Tryz.zeroValue9
 t37:=Tryz.underlying48
 a37:=Tryz.isAgg48
 z37:=Tryz.sizeOf48
 v37:=Tryz.zeroValue48
 t127:=Tryz.underlying252
 a127:=Tryz.isAgg252
 z127:=Tryz.sizeOf252
 v127:=Tryz.zeroValue252
 t5:=Tryz.underlying5
 a5:=Tryz.isAgg5
 z5:=Tryz.sizeOf5
 v5:=Tryz.zeroValue5
 i0:=by kernel_rfl
 i3:=by kernel_rfl
 i4:=by kernel_rfl
 i5:=by kernel_rfl
 i9:=by kernel_rfl
 i37:=by kernel_rfl
 i127:=by kernel_rfl }
open Go.RowKit in
theorem Tryz.stringslite_Clone (s:ByteArray) (w:World) (hlim:s.size ≤ 281474976710656) :
  Calls Tryz.prog 127 #[.string s] w fun e w' => e = .returned (.string s)∧Below w.heap.size w w':=Any.stringslite_Clone Tryz.laysM316 s w hlim
open Go.RowKit Go.Lib Go.Sort in
open Go.RowKit Go.Lib Go.Sort in
open Go.RowKit Go.Lib Go.Sort in
def Tryz.laysNm216_ren:Go.Shelf.Ren:=⟨fun | 16 => 72 | n => n,fun | 24 => 33 | 9 => 9 | 4 => 4 | n => n,fun | n => n⟩
theorem Tryz.laysNm216:Go.Proofs.Lays2.n16 Tryz.prog Tryz.laysNm216_ren:={
 mixed:=by kernel_rfl
 f16:=Tryz.func72.trans (congrArg some (by kernel_rfl))
 t4:=Tryz.underlying4
 a4:=Tryz.isAgg4
 z4:=Tryz.sizeOf4
 v4:=Tryz.zeroValue4
 t9:=Tryz.underlying9
 a9:=Tryz.isAgg9
 z9:=Tryz.sizeOf9
 v9:=Tryz.zeroValue9
 t24:=Tryz.underlying33
 a24:=Tryz.isAgg33
 z24:=Tryz.sizeOf33
 v24:=Tryz.zeroValue33
 i9:=by kernel_rfl }
open Go.RowKit Go.Lib in
theorem Tryz.slices_Clone_string (b off n c:Nat) (zs:List ByteArray) (w:World) (hz:n ≤ zs.length) (hbig:n * 16 ≤ 140737488355328) (hc:∀ j,j < zs.length→w.cell? ⟨b,off+j,none⟩=some (.string (zs.getD j ByteArray.empty))) :
  Calls Tryz.prog 72 #[.slice (some ⟨b,off,none⟩) n c] w fun e w' => ∃ v',e = .returned v' ∧ w'.ownsRow w.heap.size 9 1 v' n ((zs.take n).map (Value.string))∧v' ≠ .slice none 0 0∧Below w.heap.size w w':=Any.slices_Clone_string Tryz.laysNm216 b off n c zs w hz hbig hc
open Go.RowKit Go.Lib in
theorem Tryz.slices_Clone_string_nil (n c:Nat) (w:World) :
  Calls Tryz.prog 72 #[.slice none n c] w fun e w' => e = .returned (.slice none 0 0)∧w' = w:=Any.slices_Clone_string_nil Tryz.laysNm216 n c w
open Go.RowKit Go.Lib in
open Go.RowKit Go.Lib in
open Go.RowKit Go.Lib in
open Go.RowKit Go.Lib in
def Tryz.laysNm225_ren:Go.Shelf.Ren:=⟨fun | 25 => 125 | 31 => 172 | 32 => 173 | 37 => 201 | n => n,fun | 22 => 101 | 3 => 3 | 4 => 4 | 40 => 230 | 0 => 0 | n => n,fun | n => n⟩
theorem Tryz.laysNm225:Go.Proofs.Lays2.n25 Tryz.prog Tryz.laysNm225_ren:={
 mixed:=by kernel_rfl
 f25:=Tryz.func125.trans (congrArg some (by kernel_rfl))
 f31:=Tryz.func172.trans (congrArg some (by kernel_rfl))
 f32:=Tryz.func173.trans (congrArg some (by kernel_rfl))
 f37:=Tryz.func201.trans (congrArg some (by kernel_rfl))
 t0:=Tryz.underlying0
 a0:=Tryz.isAgg0
 z0:=Tryz.sizeOf0
 v0:=Tryz.zeroValue0
 t3:=Tryz.underlying3
 a3:=Tryz.isAgg3
 z3:=Tryz.sizeOf3
 v3:=Tryz.zeroValue3
 t4:=Tryz.underlying4
 a4:=Tryz.isAgg4
 z4:=Tryz.sizeOf4
 v4:=Tryz.zeroValue4
 t22:=Tryz.underlying101
 a22:=Tryz.isAgg101
 z22:=Tryz.sizeOf101
 v22:=Tryz.zeroValue101
 t40:=Tryz.underlying230
 a40:=Tryz.isAgg230
 z40:=Tryz.sizeOf230
 v40:=Tryz.zeroValue230 }
open Go.RowKit Go.Lib in
theorem Tryz.slices_BinarySearch_int (b off n c:Nat) (zs:List Int) (x:Int) (w:World) (hz:n ≤ zs.length) (hbig:n < 4611686018427387904) (hc:∀ j,j < zs.length→w.cell? ⟨b,off+j,none⟩=some (.int .i64 (zs.getD j 0))) (hs:(zs.take n).Pairwise (· ≤ ·)) :
  Calls Tryz.prog 125 #[.slice (some ⟨b,off,none⟩) n c,.int .i64 x] w fun e w' => e = .returned (.tuple #[.int .i64 ((zs.take n).countP (· < x):Nat),.bool ((zs.take n).contains x)])∧∃ q,w' = w.drewN q:=Any.slices_BinarySearch_int Tryz.laysNm225 b off n c zs x w hz hbig hc hs
def Tryz.laysNm223_ren:Go.Shelf.Ren:=⟨fun | 23 => 199 | n => n,fun | 22 => 101 | 3 => 3 | 4 => 4 | 0 => 0 | n => n,fun | n => n⟩
theorem Tryz.laysNm223:Go.Proofs.Lays2.n23 Tryz.prog Tryz.laysNm223_ren:={
 mixed:=by kernel_rfl
 f23:=Tryz.func199.trans (congrArg some (by kernel_rfl))
 t0:=Tryz.underlying0
 a0:=Tryz.isAgg0
 z0:=Tryz.sizeOf0
 v0:=Tryz.zeroValue0
 t3:=Tryz.underlying3
 a3:=Tryz.isAgg3
 z3:=Tryz.sizeOf3
 v3:=Tryz.zeroValue3
 t4:=Tryz.underlying4
 a4:=Tryz.isAgg4
 z4:=Tryz.sizeOf4
 v4:=Tryz.zeroValue4
 t22:=Tryz.underlying101
 a22:=Tryz.isAgg101
 z22:=Tryz.sizeOf101
 v22:=Tryz.zeroValue101
 i3:=by kernel_rfl }
open Go.RowKit Go.Lib Go.Sort in
open Go.RowKit Go.Lib Go.Sort in
open Go.RowKit Go.Lib Go.Sort in
open Go.RowKit Go.Lib Go.Sort in
theorem Tryz.slices_Delete_int_cells (b off n c i j:Nat) (zs:List Int) (w:World) (hz:n ≤ zs.length) (hcap:n ≤ c) (hm:c ≤ 9223372036854775807) (hij:i ≤ j) (hj:j ≤ n) (hc:∀ j,j < zs.length→w.cell? ⟨b,off+j,none⟩=some (.int .i64 (zs.getD j 0))) (hf:∀ j,j < n→w.frozen? ⟨b,off+j,none⟩=false) :
  Calls Tryz.prog 199 #[.slice (some ⟨b,off,none⟩) n c,.int .i64 i,.int .i64 j] w fun e w' => e = .returned (.slice (some ⟨b,off,none⟩) (n - (j - i)) c)∧∃ q,w' = (w.drewN q).setCells b off (((zs.take n).take i ++ (zs.take n).drop j ++ List.replicate (j - i) 0).map (Value.int .i64)):=Any.slices_Delete_int_cells Tryz.laysNm223 b off n c i j zs w hz hcap hm hij hj hc hf
open Go.RowKit Go.Lib in
theorem Tryz.slices_BinarySearch_int_empty (a:Option Addr) (c:Nat) (x:Int) (w:World) :
  Calls Tryz.prog 125 #[.slice a 0 c,.int .i64 x] w fun e w' => e = .returned (.tuple #[.int .i64 0,.bool false])∧w' = w:=Any.slices_BinarySearch_int_empty Tryz.laysNm225 a c x w
open Go.RowKit Go.Lib in
theorem Tryz.slices_Delete_int_empty (a:Option Addr) (c:Nat) (w:World) :
  Calls Tryz.prog 199 #[.slice a 0 c,.int .i64 0,.int .i64 0] w fun e w' => e = .returned (.slice a 0 c)∧w' = w:=Any.slices_Delete_int_empty Tryz.laysNm223 a c w
open Go.RowKit Go.Lib in
open Go.RowKit Go.Lib in
def Tryz.laysNm221_ren:Go.Shelf.Ren:=⟨fun | 21 => 126 | 27 => 174 | 28 => 175 | 35 => 202 | 39 => 214 | n => n,fun | 22 => 101 | 3 => 3 | 4 => 4 | 0 => 0 | n => n,fun | n => n⟩
theorem Tryz.laysNm221:Go.Proofs.Lays2.n21 Tryz.prog Tryz.laysNm221_ren:={
 mixed:=by kernel_rfl
 f21:=Tryz.func126.trans (congrArg some (by kernel_rfl))
 f27:=Tryz.func174.trans (congrArg some (by kernel_rfl))
 f28:=Tryz.func175.trans (congrArg some (by kernel_rfl))
 f35:=Tryz.func202.trans (congrArg some (by kernel_rfl))
 f39:=Tryz.func214.trans (congrArg some (by kernel_rfl))
 t0:=Tryz.underlying0
 a0:=Tryz.isAgg0
 z0:=Tryz.sizeOf0
 v0:=Tryz.zeroValue0
 t3:=Tryz.underlying3
 a3:=Tryz.isAgg3
 z3:=Tryz.sizeOf3
 v3:=Tryz.zeroValue3
 t4:=Tryz.underlying4
 a4:=Tryz.isAgg4
 z4:=Tryz.sizeOf4
 v4:=Tryz.zeroValue4
 t22:=Tryz.underlying101
 a22:=Tryz.isAgg101
 z22:=Tryz.sizeOf101
 v22:=Tryz.zeroValue101
 i3:=by kernel_rfl }
end Go.Proofs
namespace Go.Proofs.YtamafdcnbcoegabGreat
open Go.RowKit
def NumsAt (w:World) (v:Value) (ns:List Nat):Prop:=w.ownsRow 0 3 1 v ns.length (numCells ns)
theorem nums_get {ns:List Nat} {i:Nat} (h:i < ns.length):(numCells ns)[i]? = some (.int .i64 (ns.getD i 0:Nat)):=by
 simp [numCells,h,List.getD_eq_getElem?_getD]
theorem numCells_one (ns:List Nat):∀ u ∈ numCells ns,u.oneCell' = true:=by
 intro u hu
 obtain ⟨n,_,rfl⟩:=List.mem_map.1 hu
 rfl
theorem numsAt_nil (w:World):NumsAt w (.slice none 0 0) []:=World.ownsRow_nil _ _ _ _
theorem NumsAt.keep {w w':World} {v:Value} {ns:List Nat} (h:NumsAt w v ns) (hk:∀ g,v.ownBlock=some g→w'.heap[g]? = w.heap[g]?):NumsAt w' v ns:=ownsRow_keep h hk
theorem NumsAt.cases {w:World} {v:Value} {ns:List Nat} (h:NumsAt w v ns):(v = .slice none 0 0∧ns = []) ∨
  ∃ g cap cur,v = .slice (some ⟨g,0,none⟩) ns.length cap∧w.heap[g]? = some (.cells cur 3 (0,0))∧ns.length ≤ cap∧cap ≤ maxLen∧cur.size=cap∧cur.toList.take ns.length=numCells ns:=by
 obtain ⟨h1,h2⟩:=h
 rcases h2 with ⟨h2,h3⟩ | ⟨g,cap,cur,rfl,_,hh,hn,hc,hs,ht⟩
 ·exact .inl ⟨h2,List.eq_nil_of_length_eq_zero h3⟩
 ·exact .inr ⟨g,cap,cur,rfl,hh,hn,hc,by simpa using hs,by simpa using ht⟩
theorem NumsAt.cell' {w:World} {g n cap k:Nat} {ns:List Nat} (h:NumsAt w (.slice (some ⟨g,0,none⟩) n cap) ns) (hk:k < ns.length):w.cell? ⟨g,k,none⟩=some (.int .i64 (ns.getD k 0:Nat)):=by
 have h0:=h
 rcases h.cases with ⟨e,_⟩ | ⟨g',cap',cur,e,hh,hn,hc,hs,ht⟩
 ·cases e
 ·injection e with e1 e2 e3
  injection e1 with e1
  injection e1 with e1
  subst e1 e2 e3
  rw [World.ownsRow.cellAt h0 k (by omega),nums_get hk]
theorem numsAt_mk {w:World} {ns:List Nat} {g cap:Nat} {cur:Array Value} (hh:w.heap[g]? = some (.cells cur 3 (0,0))) (hn:ns.length ≤ cap) (hc:cap ≤ maxLen) (hs:cur.size=cap) (ht:cur.toList.take ns.length=numCells ns) :
  NumsAt w (.slice (some ⟨g,0,none⟩) ns.length cap) ns :=
 ⟨by simp [numCells],.inr ⟨g,cap,cur,rfl,Nat.zero_le _,hh,hn,hc,by simpa using hs,by simpa using ht⟩⟩
theorem numsAt_mk' {w:World} {ns:List Nat} {g n cap:Nat} {cur:Array Value} (hh:w.heap[g]? = some (.cells cur 3 (0,0))) (hn:ns.length=n) (hl:n ≤ cap) (hc:cap ≤ maxLen) (hs:cur.size=cap) {rest:List Value} (ht:cur.toList=numCells ns ++ rest) :
  NumsAt w (.slice (some ⟨g,0,none⟩) n cap) ns:=by
 subst hn
 exact numsAt_mk hh hl hc hs (by rw [ht,List.take_append_of_le_length (by simp [numCells]),List.take_of_length_le (by simp [numCells])])
theorem zeros_size (n:Nat):(Builtin.zeroCells (Value.int .i64 0).cells n).size=n:=by
 rw [size_zeroCells]
 show n * 1=n
 omega
theorem setCells_blk {b:Nat} {e:TypeId} {fr:Nat × Nat}:∀ (vs:List Value) (o:Nat) (w:World) (cur:Array Value),w.heap[b]? = some (.cells cur e fr)→o+vs.length ≤ cur.size →
  ∃ c,(w.setCells b o vs).heap[b]? = some (.cells c e fr)∧c.size=cur.size∧c.toList=cur.toList.take o ++ vs ++ cur.toList.drop (o+vs.length)
 | [],o,w,cur,h,_ => ⟨cur,h,rfl,by simp⟩
 | v :: r,o,w,cur,h,hl => by
  have hol:o < cur.size:=by simp at hl;omega
  obtain ⟨c,h1,h2,h3⟩:=setCells_blk r (o+1) (w.setCell ⟨b,o,none⟩ v) _ (blk_set h) (by simp at hl ⊢;omega)
  refine ⟨c,h1,by rw [h2];simp,?_⟩
  rw [h3,Array.toList_setIfInBounds]
  have e1:(cur.toList.set o v).take (o+1)=cur.toList.take o ++ [v]:=by
   rw [List.take_add_one,List.take_set_of_le (Nat.le_refl _)]
   simp [hol]
  have e2:(cur.toList.set o v).drop (o+1+r.length)=cur.toList.drop (o+(v :: r).length):=by
   rw [List.drop_set_of_lt (by omega)]
   congr 1
   simp
   omega
  rw [e1,e2]
  simp
theorem far_setCells (b:Nat):∀ (vs:List Value) (o:Nat) (w:World),Far (fun k => k=b) w (w.setCells b o vs)
 | [],_,w => Far.refl _ w
 | v :: r,o,w => (far_set w b o v).trans (far_setCells b r (o+1) _) (fun _ _ h => h)
theorem far_drewN (E:Nat→Prop) (w:World) (n:Nat):Far E w (w.drewN n):=⟨rfl,rfl,rfl,Nat.le_refl _,fun _ _ _ => rfl⟩
theorem ints_countP (ns:List Nat) (x:Nat):((ns.map Int.ofNat).countP (· < (x:Int)))=ns.countP (· < x):=by
 rw [List.countP_map]
 apply List.countP_congr
 intro a _
 simp
theorem ints_contains (ns:List Nat) (x:Nat):((ns.map Int.ofNat).contains (x:Int))=ns.contains x:=by
 induction ns with
 | nil => rfl
 | cons a r ih =>
  simp only [List.map_cons,List.contains_cons,ih]
  congr 1
  rw [Bool.eq_iff_iff]
  simp only [beq_iff_eq]
  exact Int.ofNat_inj
theorem search_any {w:World} {v:Value} {ns:List Nat} (h:NumsAt w v ns) (hs:ns.Pairwise (· < ·)) (hl:ns.length ≤ 1000000) (x:Nat) :
  Calls Tryz.prog 125 #[v,.int .i64 x] w fun e w' => e = .returned (.tuple #[.int .i64 (ns.countP (· < x):Nat),.bool (ns.contains x)])∧∃ q,w' = w.drewN q:=by
 rcases h.cases with ⟨rfl,rfl⟩ | ⟨g,cap,cur,rfl,hh,hn,hc,hz,ht⟩
 ·refine (Tryz.slices_BinarySearch_int_empty none 0 x w).mono ?_
  rintro e w' ⟨rfl,rfl⟩
  exact ⟨rfl,0,rfl⟩
 ·have hb:=Tryz.slices_BinarySearch_int g 0 ns.length cap (ns.map Int.ofNat) x w (by simp) (by omega) (fun j hj => by
   have hj':j < ns.length:=by simpa using hj
   rw [Nat.zero_add,World.ownsRow.cellAt h j (by omega),nums_get hj']
   simp [List.getD_eq_getElem?_getD,hj']) (by
   rw [List.take_of_length_le (by simp),List.pairwise_map]
   exact hs.imp (fun h => by simp;omega))
  refine hb.mono ?_
  rintro e w' ⟨rfl,q,rfl⟩
  rw [List.take_of_length_le (by simp),ints_countP,ints_contains]
  exact ⟨rfl,q,rfl⟩
theorem drop_cells {ns:List Nat} (i:Nat):(numCells ns).drop i=numCells (ns.drop i):=by simp [numCells]
theorem take_cells {ns:List Nat} (i:Nat):(numCells ns).take i=numCells (ns.take i):=by simp [numCells]
theorem nums_len (ns:List Nat):(numCells ns).length=ns.length:=by simp [numCells]
theorem ins_end_grow (base:Option Addr) (n c q:Nat) (cs:List Value) (x:Value) (w:World) (hnc:n ≤ c) (hroom:c < n+1) (hbig:(n+1) * 8 ≤ 140737488355328) (hcl:cs.length=n) (hnil:base=none→n=0)
  (hcs:∀ a,base=some a→∀ j v,cs[j]? = some v→w.cell? (a.add j)=some v) (hvs:∀ j v,[x][j]? = some v→w.cell? ⟨q,0+j,none⟩=some v) (h1v:∀ v ∈ [x],v.oneCell' = true) :
  Calls Tryz.prog 126 #[.slice base n c,.int .i64 n,.slice (some ⟨q,0,none⟩) 1 1] w fun e w' => e = .returned (.slice (some ⟨w.heap.size,0,none⟩) (n+1) (grownCap w (n+1) c 3)) ∧
   w' = w.drew.alloc (.cells ((cs ++ [x]).toArray ++ Builtin.zeroCells (Value.int .i64 0).cells (grownCap w (n+1) c 3 - (n+1))) 3) :=
 Any2.slices_Insert_int_end_grow Tryz.laysNm221 base n c q 0 1 1 cs [x] w (by omega) hnc hroom hbig hcl rfl hnil hcs hvs h1v
theorem ins_grow (b n c i q:Nat) (cs:List Value) (x:Value) (w:World) (hi:i < n) (hnc:n ≤ c) (hroom:c < n+1) (hbig:(n+1) * 8 ≤ 140737488355328) (hcl:cs.length=n)
  (hcs:∀ j v,cs[j]? = some v→w.cell? ⟨b,0+j,none⟩=some v) (hvs:∀ j v,[x][j]? = some v→w.cell? ⟨q,0+j,none⟩=some v) (h1c:∀ v ∈ cs,v.oneCell' = true) (h1v:∀ v ∈ [x],v.oneCell' = true) :
  Calls Tryz.prog 126 #[.slice (some ⟨b,0,none⟩) n c,.int .i64 i,.slice (some ⟨q,0,none⟩) 1 1] w fun e w' => e = .returned (.slice (some ⟨w.heap.size,0,none⟩) (n+1) (grownCap w (n+1) c 3)) ∧
   w' = (((w.alloc (.cells ((cs.take i).toArray ++ Builtin.zeroCells (Value.int .i64 0).cells (n+1 - i) ++ Builtin.zeroCells (Value.int .i64 0).cells (grownCap w (n+1) c 3 - (n+1))) 3)).drew.setCells w.heap.size i [x]).drew).setCells w.heap.size (i+1) (cs.drop i) :=
 Any2.slices_Insert_int_grow Tryz.laysNm221 b 0 n c i q 0 1 1 cs [x] w hi (by omega) hnc hroom hbig hcl rfl hcs hvs h1c h1v
theorem insert_any {w:World} {v:Value} {ns:List Nat} (h:NumsAt w v ns) (hl:ns.length ≤ 1000000) (k x q:Nat) (hk:k ≤ ns.length) {t:TypeId} (hq:w.heap[q]? = some (.cells #[.int .i64 x] t (0,0))) (hqv:v.ownBlock ≠ some q) :
  Calls Tryz.prog 126 #[v,.int .i64 k,.slice (some ⟨q,0,none⟩) 1 1] w fun e w' => ∃ v',e = .returned v' ∧ NumsAt w' v' (ns.take k ++ x :: ns.drop k) ∧
   Far (fun b => v.ownBlock=some b) w w' ∧ Loc w v v':=by
 have hvs:∀ j u,[Value.int .i64 x][j]? = some u→w.cell? ⟨q,0+j,none⟩=some u:=by
  intro j u hj
  rw [blk_cell hq,Nat.zero_add]
  simpa using hj
 have h1v:∀ u ∈ [Value.int .i64 x],u.oneCell' = true:=by simp [Value.oneCell']
 have hlen:(ns.take k ++ x :: ns.drop k).length=ns.length+1:=by simp;omega
 have hout:numCells (ns.take k ++ x :: ns.drop k)=numCells (ns.take k) ++ [.int .i64 x] ++ numCells (ns.drop k):=by simp [numCells]
 have grownc:∀ (a:Nat),grownCap w (ns.length+1) a 3 ≤ maxLen:=fun a => grownCap_le_maxLen w _ _ _ (by unfold maxLen;omega)
 have growng:∀ (a:Nat),ns.length+1 ≤ grownCap w (ns.length+1) a 3:=fun a => grownCap_ge w _ _ _
 rcases h.cases with ⟨rfl,rfl⟩ | ⟨g,cap,cur,rfl,hh,hn,hc,hz,ht⟩
 ·obtain rfl:k=0:=by simpa using hk
  refine (ins_end_grow none 0 0 q [] (.int .i64 x) w (by omega) (by omega) (by omega) rfl (fun _ => rfl) (fun a ha => by cases ha) hvs h1v).mono ?_
  rintro e w' ⟨rfl,rfl⟩
  refine ⟨_,rfl,?_,?_,.inr (.inr ⟨_,rfl,Nat.le_refl _⟩)⟩
  ·have hg:=growng 0
   refine numsAt_mk' (heap_alloc_new w.drew _) hlen hg (grownc 0) ?_ (rest:=(Builtin.zeroCells (Value.int .i64 0).cells (grownCap w (0+1) 0 3 - (0+1))).toList) ?_
   ·rw [Array.size_append,zeros_size]
    simp only [List.nil_append,List.size_toArray,List.length_cons,List.length_nil] at hg ⊢
    omega
   ·rw [Array.toList_append]
    rfl
  ·exact (far_drewN _ w 1).trans (far_below ((Below.refl _ _).alloc (Nat.le_refl _) _)) (fun _ _ h => h)
 ·have hqg:q ≠ g:=fun e => hqv (by rw [e];rfl)
  have hcs:∀ j u,(numCells ns)[j]? = some u→w.cell? ⟨g,0+j,none⟩=some u:=by
   intro j u hj
   have hjl:j < ns.length:=by
    have:=(List.getElem?_eq_some_iff.1 hj).1
    rwa [nums_len] at this
   rw [Nat.zero_add,World.ownsRow.cellAt h j (by omega)]
   exact hj
  have hf:∀ j,w.frozen? ⟨g,j,none⟩=false:=fun j => by simp [World.frozen?,hh]
  have hfq:∀ j,w.frozen? ⟨q,j,none⟩=false:=fun j => by simp [World.frozen?,hq]
  have hcell:∀ j,j < cap→(w.cell? ⟨g,j,none⟩).isSome=true:=fun j hj => by rw [blk_cell hh];simp [hz,hj]
  have hmx:cap ≤ 9223372036854775807:=by unfold maxLen at hc;omega
  have hk1:(numCells (ns.take k)).length=k:=by rw [nums_len,List.length_take];omega
  have hdl:((numCells ns).drop k).length=ns.length - k:=by simp [numCells]
  by_cases hkn:k=ns.length
  ·have hout2:numCells (ns.take k ++ x :: ns.drop k)=numCells ns ++ [.int .i64 x]:=by
    rw [hout,hkn];simp [numCells]
   have hkk:(k:Int)=(ns.length:Int):=by rw [hkn]
   rw [hkk]
   by_cases hroom:ns.length+1 ≤ cap
   ·refine (Any2.slices_Insert_int_end_room Tryz.laysNm221 g 0 ns.length cap q 0 1 1 [.int .i64 x] w (by omega) hroom hmx rfl (fun j hj => by rw [Nat.zero_add];exact hcell _ (by omega)) (fun j _ => hf _) hvs h1v).mono ?_
    rintro e w' ⟨rfl,rfl⟩
    obtain ⟨c,e1,e2,e3⟩:=setCells_blk [Value.int .i64 x] (0+ns.length) w cur hh (by simp;omega)
    refine ⟨_,rfl,?_,(far_setCells g _ _ w).mono (fun b _ hb => by rw [hb];rfl),.inr (.inl rfl)⟩
    exact numsAt_mk' e1 hlen hroom hc (by rw [e2,hz]) (by rw [e3,hout2,Nat.zero_add,ht])
   ·refine (ins_end_grow (some ⟨g,0,none⟩) ns.length cap q (numCells ns) (.int .i64 x) w hn (by omega) (by omega) (nums_len _) (fun h => by cases h) (fun a ha j u hj => by
     cases ha
     rw [Addr.add_lit]
     exact hcs j u hj) hvs h1v).mono ?_
    rintro e w' ⟨rfl,rfl⟩
    refine ⟨_,rfl,?_,?_,.inr (.inr ⟨_,rfl,Nat.le_refl _⟩)⟩
    ·have hg:=growng cap
     refine numsAt_mk' (heap_alloc_new w.drew _) hlen hg (grownc cap) ?_ (rest:=(Builtin.zeroCells (Value.int .i64 0).cells (grownCap w (ns.length+1) cap 3 - (ns.length+1))).toList) ?_
     ·rw [Array.size_append,zeros_size,List.size_toArray,List.length_append,nums_len,List.length_singleton]
      omega
     ·rw [hout2,Array.toList_append]
    ·exact (far_drewN _ w 1).trans (far_below ((Below.refl _ _).alloc (Nat.le_refl _) _)) (fun _ _ h => h)
  ·have hkl:k < ns.length:=by omega
   by_cases hroom:ns.length+1 ≤ cap
   ·refine (Any2.slices_Insert_int_shift Tryz.laysNm221 g 0 ns.length cap k q 0 1 1 (numCells ns) [.int .i64 x] w hkl (by omega) hroom hmx hqg (nums_len _) rfl hcs (fun j hj => by rw [Nat.zero_add];exact hcell _ (by omega)) (fun j _ => hf _) hvs (numCells_one ns) h1v
     t 3 1 cap (by simp [World.shape?,hq]) (by simp [World.shape?,hh,hz]) (by omega) (hfq _) (hfq _)).mono ?_
    rintro e w' ⟨rfl,rfl⟩
    obtain ⟨c,e1,e2,e3⟩:=setCells_blk ((numCells ns).drop k) (0+(k+1)) w.drew cur hh (by rw [hdl,hz];omega)
    obtain ⟨c',e1',e2',e3'⟩:=setCells_blk [Value.int .i64 x] (0+k) _ c e1 (by rw [e2,hz];simp;omega)
    refine ⟨_,rfl,?_,?_,.inr (.inl rfl)⟩
    ·refine numsAt_mk' e1' hlen hroom hc (by rw [e2',e2,hz]) (rest:=cur.toList.drop (ns.length+1)) ?_
     rw [e3',hout,e3]
     have a1:(cur.toList.take (0+(k+1)) ++ (numCells ns).drop k ++ cur.toList.drop (0+(k+1)+((numCells ns).drop k).length)).take (0+k)=numCells (ns.take k):=by
      rw [List.append_assoc,List.take_append_of_le_length (by simp;omega),List.take_take,Nat.min_eq_left (by omega),Nat.zero_add,← take_cells,← ht,List.take_take,Nat.min_eq_left (by omega)]
     have a3:0+k + [Value.int .i64 (x:Int)].length=0+(k+1):=by simp
     have a4:(cur.toList.take (0+(k+1))).length=0+(k+1):=by simp;omega
     have a5:0+(k+1)+((numCells ns).drop k).length=ns.length+1:=by rw [hdl];omega
     rw [a1,a3,a5,List.append_assoc (cur.toList.take _),List.drop_append_of_le_length (by rw [a4];omega),List.drop_of_length_le (by rw [a4];omega),List.nil_append,drop_cells]
     simp only [List.append_assoc]
    ·have f1:=(far_drewN (fun k => k=g) w 1).trans (far_setCells g ((numCells ns).drop k) (0+(k+1)) w.drew) (fun _ _ h => h)
     exact (f1.trans (far_setCells g _ _ _) (fun _ _ h => h)).mono (fun b _ hb => by rw [hb];rfl)
   ·refine (ins_grow g ns.length cap k q (numCells ns) (.int .i64 x) w hkl hn (by omega) (by omega) (nums_len _) hcs hvs (numCells_one ns) h1v).mono ?_
    rintro e w' ⟨rfl,rfl⟩
    have hg:=growng cap
    have hcm:=grownc cap
    have hfa:Far (fun _ => False) w (w.alloc (.cells (((numCells ns).take k).toArray ++ Builtin.zeroCells (Value.int .i64 0).cells (ns.length+1 - k) ++ Builtin.zeroCells (Value.int .i64 0).cells (grownCap w (ns.length+1) cap 3 - (ns.length+1))) 3)):=far_below ((Below.refl _ _).alloc (Nat.le_refl _) _)
    have hA:=heap_alloc_new w (.cells (((numCells ns).take k).toArray ++ Builtin.zeroCells (Value.int .i64 0).cells (ns.length+1 - k) ++ Builtin.zeroCells (Value.int .i64 0).cells (grownCap w (ns.length+1) cap 3 - (ns.length+1))) 3)
    have hs0:(((numCells ns).take k).toArray ++ Builtin.zeroCells (Value.int .i64 0).cells (ns.length+1 - k) ++ Builtin.zeroCells (Value.int .i64 0).cells (grownCap w (ns.length+1) cap 3 - (ns.length+1))).size=grownCap w (ns.length+1) cap 3:=by
     rw [Array.size_append,Array.size_append,zeros_size,zeros_size]
     simp [nums_len]
     omega
    have hp0:∃ r,(((numCells ns).take k).toArray ++ Builtin.zeroCells (Value.int .i64 0).cells (ns.length+1 - k) ++ Builtin.zeroCells (Value.int .i64 0).cells (grownCap w (ns.length+1) cap 3 - (ns.length+1))).toList=numCells (ns.take k) ++ r:=⟨_,by
     rw [Array.append_assoc,Array.toList_append,take_cells]⟩
    obtain ⟨r,hp⟩:=hp0
    generalize grownCap w (ns.length+1) cap 3=gc at *
    generalize (((numCells ns).take k).toArray ++ Builtin.zeroCells (Value.int .i64 0).cells (ns.length+1 - k) ++ Builtin.zeroCells (Value.int .i64 0).cells (gc - (ns.length+1)))=arr at *
    generalize hW:w.alloc (.cells arr 3)=W at *
    obtain ⟨c,e1,e2,e3⟩:=setCells_blk [Value.int .i64 x] k W.drew arr hA (by simp;omega)
    obtain ⟨c',e1',e2',e3'⟩:=setCells_blk ((numCells ns).drop k) (k+1) (W.drew.setCells w.heap.size k [Value.int .i64 x]).drew c e1 (by rw [e2,hdl];omega)
    have a2:(numCells (ns.take k) ++ [Value.int .i64 (x:Int)]).length=k+1:=by simp [hk1]
    refine ⟨_,rfl,?_,?_,.inr (.inr ⟨_,rfl,Nat.le_refl _⟩)⟩
    ·refine numsAt_mk' e1' hlen hg hcm (by rw [e2',e2,hs0]) (rest:=c.toList.drop (k+1+((numCells ns).drop k).length)) ?_
     rw [e3',hout,e3]
     have a1:arr.toList.take k=numCells (ns.take k):=by
      rw [hp,List.take_append_of_le_length (by omega),List.take_of_length_le (by omega)]
     rw [a1,List.take_append_of_le_length (by rw [a2];omega),List.take_of_length_le (by rw [a2];omega),drop_cells]
    ·have f1:Far (fun b => b=w.heap.size) W (W.drew.setCells w.heap.size k [Value.int .i64 x]).drew:=(far_drewN _ W 1).trans ((far_setCells w.heap.size _ k W.drew).trans (far_drewN _ _ 1) (fun _ _ h => h)) (fun _ _ h => h)
     have f2:=f1.trans (far_setCells w.heap.size ((numCells ns).drop k) (k+1) _) (fun _ _ h => h)
     exact (hfa.trans f2 (fun b hb h => by omega)).mono (fun _ _ h => h.elim)
end Go.Proofs.YtamafdcnbcoegabGreat
namespace Go.Proofs.YtamafdcnbcoegabGreat
open Go.RowKit
theorem delete_any {w:World} {v:Value} {ns:List Nat} (h:NumsAt w v ns) (i j:Nat) (hij:i ≤ j) (hj:j ≤ ns.length) :
  Calls Tryz.prog 199 #[v,.int .i64 i,.int .i64 j] w fun e w' => ∃ v',e = .returned v' ∧ NumsAt w' v' (ns.take i ++ ns.drop j) ∧
   Far (fun b => v.ownBlock=some b) w w' ∧ v'.ownBlock=v.ownBlock:=by
 rcases h.cases with ⟨rfl,rfl⟩ | ⟨g,cap,cur,rfl,hh,hn,hc,hz,ht⟩
 ·obtain rfl:j=0:=by simpa using hj
  obtain rfl:i=0:=by omega
  refine (Tryz.slices_Delete_int_empty none 0 w).mono ?_
  rintro e w' ⟨rfl,rfl⟩
  exact ⟨_,rfl,numsAt_nil _,Far.refl _ _,rfl⟩
 ·refine (Tryz.slices_Delete_int_cells g 0 ns.length cap i j (ns.map Int.ofNat) w (by simp) hn (by unfold maxLen at hc;omega) hij hj (fun k hk => ?_) (fun k _ => by simp [World.frozen?,hh])).mono ?_
  ·have hk':k < ns.length:=by simpa using hk
   rw [Nat.zero_add,World.ownsRow.cellAt h k (by omega),nums_get hk']
   simp [List.getD_eq_getElem?_getD,hk']
  ·rintro e w' ⟨rfl,q,rfl⟩
   have hlist:(((ns.map Int.ofNat).take ns.length).take i ++ ((ns.map Int.ofNat).take ns.length).drop j ++ List.replicate (j - i) 0).map (Value.int .i64)=numCells (ns.take i ++ ns.drop j) ++ List.replicate (j - i) (.int .i64 0):=by
    have e0:(ns.map Int.ofNat).take ns.length=ns.map Int.ofNat:=List.take_of_length_le (by simp)
    rw [e0]
    simp only [List.map_append,List.map_replicate,numCells,← List.map_take,← List.map_drop,List.map_map]
    rfl
   rw [hlist]
   have hll:(numCells (ns.take i ++ ns.drop j) ++ List.replicate (j - i) (Value.int .i64 0)).length=ns.length:=by
    simp [numCells];omega
   obtain ⟨c,e1,e2,e3⟩:=setCells_blk (numCells (ns.take i ++ ns.drop j) ++ List.replicate (j - i) (.int .i64 0)) 0 (w.drewN q) cur hh (by rw [hll,hz];omega)
   refine ⟨_,rfl,?_,?_,rfl⟩
   ·refine numsAt_mk' e1 (by simp;omega) (by omega) hc (by rw [e2,hz]) (rest:=List.replicate (j - i) (.int .i64 0) ++ cur.toList.drop (0+(numCells (ns.take i ++ ns.drop j) ++ List.replicate (j - i) (Value.int .i64 0)).length)) ?_
    rw [e3]
    simp
   ·exact ((far_drewN (fun k => k=g) w q).trans (far_setCells g _ _ _) (fun _ _ h => h)).mono (fun b _ hb => by rw [hb];rfl)
end Go.Proofs.YtamafdcnbcoegabGreat
namespace Go.Proofs.YtamafdcnbcoegabGreat
open Go.RowKit
def look:List (Nat × Value)→Int→Option Value
 | [],_ => none
 | x :: r,k => if k=(x.1:Int) then some x.2 else look r k
theorem look_cons (x:Nat × Value) (r:List (Nat × Value)) (k:Int):look (x :: r) k=if k=(x.1:Int) then some x.2 else look r k:=rfl
theorem look_nil:look [] = fun _ => none:=by funext k;rfl
theorem look_mem {l:List (Nat × Value)} {k:Int} {v:Value} (h:look l k=some v):∃ x ∈ l,(x.1:Int)=k∧x.2=v:=by
 induction l with
 | nil => cases h
 | cons x r ih =>
  unfold look at h
  split at h
  ·rename_i hk
   exact ⟨x,.head _,hk.symm,Option.some.inj h⟩
  ·obtain ⟨y,hy,e⟩:=ih h
   exact ⟨y,.tail _ hy,e⟩
theorem look_isSome (l:List (Nat × Value)) (n:Nat):(look l n).isSome=(l.map (·.1)).contains n:=by
 induction l with
 | nil => rfl
 | cons x r ih =>
  unfold look
  rw [List.map_cons,List.contains_cons]
  by_cases h:n=x.1
  ·subst h;simp
  ·rw [if_neg (by omega),ih]
   simp [h]
def putL:List (Nat × Value)→Nat→Value→List (Nat × Value)
 | [],n,v => [(n,v)]
 | x :: r,n,v => if n < x.1 then (n,v) :: x :: r else if n=x.1 then (n,v) :: r else x :: putL r n v
theorem look_putL (l:List (Nat × Value)) (n:Nat) (v:Value):look (putL l n v)=putF (look l) n v:=by
 funext k
 induction l with
 | nil => simp [putL,look,putF]
 | cons x r ih =>
  unfold putL
  by_cases h1:n < x.1
  ·rw [if_pos h1]
   show (if k=(n:Int) then some v else look (x :: r) k)=_
   rfl
  ·rw [if_neg h1]
   by_cases h2:n=x.1
   ·rw [if_pos h2]
    show (if k=(n:Int) then some v else look r k)=_
    unfold putF
    rw [look_cons]
    by_cases h3:k=(n:Int)
    ·rw [if_pos h3,if_pos h3]
    ·rw [if_neg h3,if_neg h3,if_neg (by omega)]
   ·rw [if_neg h2]
    show (if k=(x.1:Int) then some x.2 else look (putL r n v) k)=_
    rw [ih]
    unfold putF
    show _=if k=(n:Int) then some v else (if k=(x.1:Int) then some x.2 else look r k)
    by_cases h3:k=(x.1:Int)
    ·rw [if_pos h3,if_neg (by omega),if_pos h3]
    ·rw [if_neg h3,if_neg h3]
theorem mem_putL {l:List (Nat × Value)} {n:Nat} {v:Value} {x:Nat × Value} (h:x ∈ putL l n v):x=(n,v) ∨ x ∈ l:=by
 induction l with
 | nil => simp [putL] at h;exact .inl h
 | cons y r ih =>
  unfold putL at h
  split at h
  ·cases h with
   | head => exact .inl rfl
   | tail _ h => exact .inr h
  ·split at h
   ·cases h with
    | head => exact .inl rfl
    | tail _ h => exact .inr (.tail _ h)
   ·cases h with
    | head => exact .inr (.head _)
    | tail _ h => exact (ih h).imp id (fun h => .tail _ h)
theorem countP_zero_of {r:List Nat} {n:Nat} (h:∀ y ∈ r,¬ y < n):r.countP (· < n)=0:=by
 rw [List.countP_eq_zero]
 intro y hy
 simpa using h y hy
theorem keys_putL {l:List (Nat × Value)} {n:Nat} {v:Value} (hs:(l.map (·.1)).Pairwise (· < ·)) :
  (putL l n v).map (·.1)=if (l.map (·.1)).contains n then l.map (·.1) else (l.map (·.1)).take ((l.map (·.1)).countP (· < n)) ++ n :: (l.map (·.1)).drop ((l.map (·.1)).countP (· < n)):=by
 induction l with
 | nil => simp [putL]
 | cons x r ih =>
  rw [List.map_cons,List.pairwise_cons] at hs
  obtain ⟨h0,hs⟩:=hs
  unfold putL
  rw [List.map_cons,List.contains_cons,List.countP_cons]
  by_cases h1:n < x.1
  ·have hz:(r.map (·.1)).countP (· < n)=0:=countP_zero_of (fun y hy => by have:=h0 y hy;omega)
   have hn:(r.map (·.1)).contains n=false:=by
    cases h:(r.map (·.1)).contains n with
    | false => rfl
    | true => have:=h0 n (by simpa using h);omega
   have hne:(n == x.1)=false:=by simp;omega
   rw [if_pos h1,hz,hn,hne,if_neg (by simp)]
   have:decide (x.1 < n)=false:=by simp;omega
   simp [this]
  ·rw [if_neg h1]
   by_cases h2:n=x.1
   ·have hne:(n == x.1)=true:=by simp [h2]
    rw [if_pos h2,hne,if_pos (by simp)]
    simp [h2]
   ·have hlt:x.1 < n:=by omega
    have hne:(n == x.1)=false:=by simp [h2]
    rw [if_neg h2,hne,List.map_cons,ih hs]
    simp only [Bool.false_or]
    by_cases hc:(r.map (·.1)).contains n=true
    ·rw [if_pos hc,if_pos hc]
    ·rw [if_neg hc,if_neg hc]
     simp [hlt]
theorem sorted_putL {l:List (Nat × Value)} {n:Nat} {v:Value} (hs:(l.map (·.1)).Pairwise (· < ·)):((putL l n v).map (·.1)).Pairwise (· < ·):=by
 induction l with
 | nil => simp [putL]
 | cons x r ih =>
  have hs0:=hs
  rw [List.map_cons,List.pairwise_cons] at hs
  obtain ⟨h0,hs⟩:=hs
  unfold putL
  by_cases h1:n < x.1
  ·rw [if_pos h1,List.map_cons,List.pairwise_cons]
   refine ⟨fun y hy => ?_,hs0⟩
   rw [List.map_cons] at hy
   cases hy with
   | head => exact h1
   | tail _ hy => exact Nat.lt_trans h1 (h0 y hy)
  ·rw [if_neg h1]
   by_cases h2:n=x.1
   ·rw [if_pos h2,List.map_cons,List.pairwise_cons]
    exact ⟨fun y hy => by rw [h2];exact h0 y hy,hs⟩
   ·rw [if_neg h2,List.map_cons,List.pairwise_cons]
    refine ⟨fun y hy => ?_,ih hs⟩
    obtain ⟨z,hz,rfl⟩:=List.mem_map.1 hy
    rcases mem_putL hz with rfl | hz
    ·show x.1 < n;omega
    ·exact h0 _ (List.mem_map.2 ⟨z,hz,rfl⟩)
theorem length_putL_le (l:List (Nat × Value)) (n:Nat) (v:Value):(putL l n v).length ≤ l.length+1:=by
 induction l with
 | nil => simp [putL]
 | cons x r ih =>
  unfold putL
  split
  ·simp
  ·split
   ·simp
   ·simp only [List.length_cons];omega
structure ShelfIs (w:World) (nv mv:Value) (l:List (Nat × Value)):Prop where
 nums:NumsAt w nv (l.map (·.1))
 map:MapV w mv (look l)
 sorted:(l.map (·.1)).Pairwise (· < ·)
 len:l.length ≤ 1000
theorem ShelfIs.keep {w w':World} {nv mv:Value} {l:List (Nat × Value)} (h:ShelfIs w nv mv l) (hn:∀ g,nv.ownBlock=some g→w'.heap[g]? = w.heap[g]?) (hm:∀ g,mapBlock mv=some g→w'.heap[g]? = w.heap[g]?):ShelfIs w' nv mv l :=
 ⟨h.nums.keep hn,h.map.keep hm,h.sorted,h.len⟩
def ShU (nv mv:Value) (k:Nat):Prop:=nv.ownBlock=some k ∨ mapBlock mv=some k
theorem ShelfIs.far {E:Nat→Prop} {w w':World} {nv mv:Value} {l:List (Nat × Value)} (h:ShelfIs w nv mv l) (hf:Far E w w') (hE:∀ k,ShU nv mv k→¬ E k):ShelfIs w' nv mv l :=
 h.keep (fun g hg => hf.rest g (World.ownsRow.lt h.nums g hg).2 (hE g (.inl hg))) (fun g hg => hf.rest g (h.map.lt g hg) (hE g (.inr hg)))
theorem ShelfIs.lt {w:World} {nv mv:Value} {l:List (Nat × Value)} (h:ShelfIs w nv mv l):∀ k,ShU nv mv k→k < w.heap.size:=by
 rintro k (hk | hk)
 ·exact (World.ownsRow.lt h.nums k hk).2
 ·exact h.map.lt k hk
theorem shelfIs_nil (w:World):ShelfIs w (.slice none 0 0) (.map none) []:=⟨numsAt_nil w,.inl ⟨rfl,look_nil⟩,by simp,by simp⟩
theorem ShelfIs.ne {w:World} {nv mv:Value} {l:List (Nat × Value)} (h:ShelfIs w nv mv l) {p:Nat} {c:Array Value} {t:TypeId} {fr:Nat × Nat} (hp:w.heap[p]? = some (.cells c t fr)) (ht:t ≠ 3):¬ ShU nv mv p:=by
 rintro (hk | hk)
 ·exact (RowO.of_own h.nums).ne hp (fun e => ht e.symm) hk
 ·rcases h.map with ⟨rfl,_⟩ | ⟨b,rfl,hm⟩
  ·cases hk
  ·cases hk;exact hm.not_cells hp
end Go.Proofs.YtamafdcnbcoegabGreat
namespace Go.Proofs.YtamafdcnbcoegabGreat
open Go.RowKit
structure ShAt (w:World) (p o:Nat) (t:TypeId) (arr:Array Value) (nv mv:Value) (l:List (Nat × Value)):Prop where
 blk:w.heap[p]? = some (.cells arr t (0,0))
 c0:arr[o]? = some nv
 c1:arr[o+1]? = some mv
 sh:ShelfIs w nv mv l
 ty:t ≠ 3
structure ShStep (w x:World) (p o:Nat) (t:TypeId) (arr:Array Value) (nv mv:Value) (l':List (Nat × Value)):Prop where
 out:∃ nv' mv',ShAt x p o t ((arr.setIfInBounds o nv').setIfInBounds (o+1) mv') nv' mv' l' ∧ Loc w nv nv' ∧ (mapBlock mv' = mapBlock mv ∨ ∃ g,mapBlock mv' = some g∧w.heap.size ≤ g)
 far:Far (fun k => k=p ∨ ShU nv mv k) w x
theorem set_same {arr:Array Value} {i:Nat} {v:Value} (h:arr[i]? = some v):arr.setIfInBounds i v=arr:=by
 apply Array.ext'
 rw [Array.toList_setIfInBounds]
 apply List.ext_getElem?
 intro j
 rw [List.getElem?_set]
 by_cases hij:i=j
 ·subst hij
  have hlt:i < arr.size:=(Array.getElem?_eq_some_iff.1 h).1
  rw [if_pos rfl,Array.length_toList,if_pos hlt]
  simpa using h.symm
 ·simp [hij]
theorem set_comm {arr:Array Value} {i j:Nat} (u v:Value) (h:i ≠ j):(arr.setIfInBounds i u).setIfInBounds j v=(arr.setIfInBounds j v).setIfInBounds i u:=by
 apply Array.ext'
 simp only [Array.toList_setIfInBounds]
 exact List.set_comm _ _ h
theorem NumsAt.notMap {w:World} {v:Value} {ns:List Nat} {b:Nat} {f:Int→Option Value} (N:NumsAt w v ns) (M:MapAt w b f):v.ownBlock ≠ some b:=by
 intro h
 rcases N.cases with ⟨rfl,_⟩ | ⟨g,cap,cur,rfl,hh,_⟩
 ·cases h
 ·cases h
  exact M.not_cells hh
theorem loc_less {w x:World} {a b:Value} (h:Loc x a b) (hs:w.heap.size ≤ x.heap.size):Loc w a b:=by
 rcases h with h | h | ⟨g,h,hg⟩
 ·exact .inl h
 ·exact .inr (.inl h)
 ·exact .inr (.inr ⟨g,h,Nat.le_trans hs hg⟩)
theorem put_end {w z W:World} {p o:Nat} {t:TypeId} {arr:Array Value} {nv nv' mv:Value} {l:List (Nat × Value)} {n mb:Nat} {v:Value} (h0:o < arr.size) (h1:o+1 < arr.size) (hb:z.heap[p]? = some (.cells ((arr.setIfInBounds o nv').setIfInBounds (o+1) (.map (some mb))) t (0,0))) (ht:t ≠ 3)
  (N:NumsAt z nv' ((putL l n v).map (·.1))) (M:MapAt z mb (look l)) (hf:Far (fun k => k=p ∨ nv.ownBlock=some k) w z) (hl:Loc w nv nv') (hloc:mapBlock mv=some mb ∨ w.heap.size ≤ mb)
  (hM:MapAt W mb (putF (look l) n v)) (hW:Far (fun k => k=mb) z W) (hs:(l.map (·.1)).Pairwise (· < ·)) (hlen:l.length < 1000):ShStep w W p o t arr nv mv (putL l n v):=by
 have hpm:¬ p=mb:=fun e => M.not_cells (by rw [← e];exact hb)
 refine ⟨⟨nv',.map (some mb),⟨hW.blk hb hpm,?_,?_,⟨N.keep (fun g hg => hW.rest g (World.ownsRow.lt N g hg).2 (fun e => N.notMap M (by rw [hg,e]))),.inr ⟨mb,rfl,by rw [look_putL];exact hM⟩,sorted_putL hs,by have:=length_putL_le l n v;omega⟩,ht⟩,hl,?_⟩,?_⟩
 ·rw [Array.getElem?_setIfInBounds_ne (by omega)];simp [h0]
 ·simp [h1]
 ·rcases hloc with h | h
  ·exact .inl h.symm
  ·exact .inr ⟨mb,rfl,h⟩
 ·refine (hf.mono (fun k _ h => h.elim .inl (fun h => .inr (.inl h)))).trans hW (fun k hk e => ?_)
  rcases hloc with h | h
  ·exact .inr (.inr (by rw [h,e]))
  ·omega
end Go.Proofs.YtamafdcnbcoegabGreat
