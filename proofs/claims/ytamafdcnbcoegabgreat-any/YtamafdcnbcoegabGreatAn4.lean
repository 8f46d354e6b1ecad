/-
  Part 4 of a proof: D8, S7A, S8A, S9A, D9, D10, D11, D12, D13.
-/
import Derived.Test.YtamafdcnbcoegabGreatAn3
namespace Go.Proofs.YtamafdcnbcoegabGreat
open Go.RowKit
def OneW (B:Nat) (cs:List Value) (v:Value) (w:World):Prop:=∃ g,v = .slice (some ⟨g,0,none⟩) 1 1∧B ≤ g∧w.heap[g]? = some (.cells cs.toArray 254 (0,0))
theorem stable_oneW (B:Nat) (cs:List Value):Stable (OneW B cs):=fun _ _ _ h hb => by
 obtain ⟨g,e,h1,h2⟩:=h
 exact ⟨g,e,h1,(hb.block g (lt_of_block h2)).trans h2⟩
theorem stableF_oneW {B:Nat} {cs:List Value} {E:Nat→Prop} (hE:∀ k,E k→k < B):StableF E (OneW B cs):=fun _ _ _ h hF => by
 obtain ⟨g,e,h1,h2⟩:=h
 exact ⟨g,e,h1,hF.blk h2 (fun e => by have:=hE _ e;omega)⟩
def RowW (w0:World) (uv:Value) (cs:List Value) (v:Value) (w:World):Prop:=RowO w 254 65 v 1 cs∧Loc w0 uv v∧w0.heap.size ≤ w.heap.size
theorem stable_rowW (w0:World) (uv:Value) (cs:List Value):Stable (RowW w0 uv cs):=fun _ _ _ h hb =>
 ⟨h.1.keep (fun g hg => hb.block g (h.1.lt g hg)),h.2.1,Nat.le_trans h.2.2 hb.size⟩
theorem stableF_rowW {w0:World} {uv:Value} {cs:List Value} {E:Nat→Prop} (hE:∀ k,E k→k < w0.heap.size∧uv.ownBlock ≠ some k):StableF E (RowW w0 uv cs):=fun _ _ _ h hF =>
 ⟨h.1.far hF (fun g hg e => by
  obtain ⟨h1,h2⟩:=hE g e
  rcases h.2.1 with h3 | h3 | ⟨k,h3,h4⟩
  ·rw [h3] at hg;cases hg
  ·rw [h3] at hg;exact h2 hg
  ·rw [h3] at hg;cases hg;omega),h.2.1,Nat.le_trans h.2.2 hF.size⟩
theorem info_write:(Tryz.prog.info? 254).map (fun i => (i.zero,i.size,i.bytes))=some (some (.agg (.int .i64 0 :: bv zeros).toArray),65,72):=by kernel_rfl
def PutW (w0:World) (p:Nat) (lv uv:Value) (n:Int) (cs:List Value) (w:World):Prop :=
 ∃ v,w.heap[p]? = some (.cells #[lv,v,.int .i64 n,.bool false] 233 (0,0))∧RowW w0 uv cs v w
theorem stable_putW (w0:World) (p:Nat) (lv uv:Value) (n:Int) (cs:List Value):Stable (fun _ w => PutW w0 p lv uv n cs w):=fun _ _ _ h hb => by
 obtain ⟨v,h1,h2⟩:=h
 exact ⟨v,(hb.block p (lt_of_block h1)).trans h1,stable_rowW w0 uv cs _ _ _ h2 hb⟩
theorem oper_build_write {o:Oper} {a:Act} {w:World} {K:Act→World→Prop} {Q:Exit→Act→World→Prop} (x y:Operand) (ho:o.op = .build 254 #[(0,x),(1,y)]) (k:Int) (S:List UInt8) (hS:S.length=64)
  (hx:a.eval x = .int .i64 k) (hy:a.eval y = .agg (bv S).toArray) (h:K (a.put o.dst (.agg (.int .i64 k :: bv S).toArray)) w):o.wp Tryz.prog a w K Q:=by
 have hb:=built_write k S hS
 refine wp_build 254 #[(0,x),(1,y)] ho ?_ ?_
 ·simp only [List.map_toArray,List.map_cons,List.map_nil,hx,hy,hb]
  rfl
 ·simp only [List.map_toArray,List.map_cons,List.map_nil,hx,hy,hb]
  exact h
theorem run_bs_write (w:World) (cs:List Value) (hc:cs.length=65):(Instr.buildSlice 231 1 #[(0,.agg cs.toArray)]).run Tryz.prog w = .ok (.slice (some ⟨w.heap.size,0,none⟩) 1 1) (w.alloc (.cells cs.toArray 254)):=by
 obtain ⟨i0,hi,hz0,hz1,hz2⟩:=info_parts2 info_write
 have hf:∀ C:Array Value,C.size=65→Instr.fill (fun i => some (i * 65,65)) C [(0,.agg cs.toArray)] = some cs.toArray:=by
  intro C hC
  have e:=fold_set 0 cs 0 C (by omega)
  simp only [Instr.fill,Value.cells]
  simp [hc,hC]
  simp at e
  rw [e]
  simp [hc,hC]
 simp [Instr.buildSlice,run_underlying Tryz.underlying231,sizeOf,typeInfo,hi,hz1,zeroValue,hz0]
 rw [hf _ (by simp)]
 simp [newRow]
theorem oper_bs_write {o:Oper} {a:Act} {w:World} {K:Act→World→Prop} {Q:Exit→Act→World→Prop} (x:Operand) (ho:o.op = .buildSlice 231 1 #[(0,x)]) (cs:List Value) (hc:cs.length=65)
  (hx:a.eval x = .agg cs.toArray) (h:K (a.put o.dst (.slice (some ⟨w.heap.size,0,none⟩) 1 1)) (w.alloc (.cells cs.toArray 254))):o.wp Tryz.prog a w K Q:=by
 unfold Oper.wp execOp
 simp only [ho,List.map_toArray,List.map_cons,List.map_nil,hx,Sem.run_bind,run_bs_write w cs hc,Result.andThen_ok]
 exact h
set_option maxRecDepth 100000 in
set_option maxHeartbeats 4000000 in
theorem diskWrite_ok (w:World) (p:Nat) (lv uv:Value) (n k:Nat) (S:List UInt8) (hS:S.length=64) (hn:n ≠ 1) (hnm:n ≤ 9223372036854775807)
  (hb:w.heap[p]? = some (.cells #[lv,uv,.int .i64 n,.bool false] 233 (0,0))) (hr:RowO w 254 65 uv 0 []) :
  Calls Tryz.prog 169 #[.pointer (some ⟨p,0,none⟩),.int .i64 k,.agg (bv S).toArray] w fun r w' =>
   r = .returned (.int .i64 0)∧PutW w p lv uv (n - 1:Nat) (.int .i64 k :: bv S) w' ∧ Far (fun j => j=p ∨ uv.ownBlock=some j) w w':=by
 have hpl:=lt_of_block hb
 have hup:=hr.ne hb (by decide)
 have hb2:∀ ob,(w.alloc ob).heap[p]? = some (.cells #[lv,uv,.int .i64 n,.bool false] 233 (0,0)):=fun ob => (hao _ _ hpl).trans hb
 have c3:∀ ob,(w.alloc ob).cell? ⟨p,3,none⟩=some (.bool false):=fun ob => blk_cell (i:=3) (hb2 ob)
 have c2:∀ ob,(w.alloc ob).cell? ⟨p,2,none⟩=some (.int .i64 n):=fun ob => blk_cell (i:=2) (hb2 ob)
 have f2:∀ ob,(w.alloc ob).frozen? ⟨p,2,none⟩=false:=fun ob => blk_free (i:=2) (hb2 ob)
 have hne:((n:Int) == 1)=false:=by simp;omega
 have hw:IntKind.i64.wrap ((n:Int) - 1)=(n:Int) - 1:=by rw [IntKind.wrap_i64];omega
 have HB:=hide hb
 have HR:=hide hr
 clear hb hb2 hr
 go_enter Tryz.func169,Tryz.ntmps169
 go_upto_region 7 with fail
 obtain ⟨n',hn'⟩:∃ n',n' = n - 1:=⟨_,rfl⟩
 refine wp_world (fun x => x.heap[p]? = some (.cells #[lv,uv,.int .i64 n',.bool false] 233 (0,0))∧x.heap[w.heap.size]? = some (.cells (bv S).toArray 214 (0,0))∧RowO x 254 65 uv 0 [] ∧ Far (fun j => j=p) w x∧w.heap.size < x.heap.size) ?_ ?_
 ·have hv:max 0 ((n:Int) - 1)=((n':Nat):Int):=by omega
  rw [hv]
  refine ⟨?_,?_,?_,?_,?_⟩
  ·rw [hao _ _ (by rw [World.size_setCell];exact hpl)]
   have:=blk_set (j:=2) (v:=.int .i64 n') (unhide HB)
   simpa using this
  ·have:=heap_alloc_new (w.setCell ⟨p,2,none⟩ (.int .i64 n')) (.cells (bv S).toArray 214)
   rw [World.size_setCell] at this
   exact this
  ·exact (unhide HR).far ((far_set w p 2 (.int .i64 n')).trans (far_below ((Below.refl _ _).alloc (Nat.le_refl _) _)) (fun _ _ h => h)) (fun g hg e => hup (by rw [hg,e]))
  ·exact (far_set w p 2 (.int .i64 n')).trans (far_below ((Below.refl _ _).alloc (Nat.le_refl _) _)) (fun _ _ h => h)
  ·simp
 rintro x ⟨h0,h1,h2,h3,hz⟩
 have hpx:=lt_of_block h0
 have huv:=fun g hg => h2.lt g hg
 have hcs:(Value.int .i64 k :: bv S).length=65:=by simp [bv_length,hS]
 obtain ⟨cs,hcsd⟩:∃ cs,cs=Value.int .i64 k :: bv S:=⟨_,rfl⟩
 rw [← hcsd] at hcs
 have HCS:=hide hcsd
 have h1c:∀ u ∈ cs,u.oneCell' = true:=by
  rw [hcsd]
  intro u hu
  cases hu with
  | head => rfl
  | tail _ hu => exact bv_oneCell S u hu
 clear hcsd
 have H0:=hide h0
 have H1:=hide h1
 have H2:=hide h2
 have H3:=hide h3
 clear h0 h1 h2 h3 c3 c2 f2 HB HR
 refine wp_region_foot (by kernel_rfl)
  [fun v _ => v = .pointer (some ⟨p,0,none⟩),fun v _ => v = .pointer (some ⟨p,0,none⟩),fun v _ => v = .pointer (some ⟨p,0,none⟩),fun v _ => v = .pointer (some ⟨p,1,none⟩),fun v _ => v=uv,fun v _ => v = .int .i64 k,fun v _ => v = .agg (bv S).toArray,fun v _ => v = .agg cs.toArray,OneW x.heap.size cs,RowW x uv cs,fun v _ => v = .pointer (some ⟨p,0,none⟩),fun v _ => v = .pointer (some ⟨p,1,none⟩),fun _ w => PutW x p lv uv n' cs w]
  [[(0,none)],[(0,none)],[(31,some 1)],[(32,some 2)],[(33,some 3)],[(1,none)],[(5,none)],[(35,some 5),(36,some 6)],[(37,some 7)],[(34,some 4),(38,some 8)],[(30,some 0)],[(40,some 10)],[(41,some 11),(39,some 9)]] [some 30,some 31,some 32,some 33,some 34,some 35,some 36,some 37,some 38,some 39,some 40,some 41,none] [false,false,false,false,false,false,false,false,false,false,false,false,false,false,false,false,false,false,false,false,false,false,false,false,false,false,false,false,false,false,true,true,true,true,true,true,true,true,true,true,true,true]
  [(9,fun j => uv.ownBlock=some j),(12,fun j => j=p)]
  (by kernel_rfl) (by kernel_rfl) (by kernel_rfl) (by kernel_rfl) (by kernel_rfl) ?_ ?_ ?_ ?_
 ·repeat' (first | exact stable_eq _ | exact stable_oneW _ _ | exact stable_rowW _ _ _ | exact stable_putW _ _ _ _ _ _ | exact trivial | apply And.intro)
 ·repeat' (first | exact trivial | exact .inl rfl | exact .inr (.inr (stableF_eq _ _)) | exact .inr (.inr (stableF_oneW (fun g hg => huv g hg))) | exact .inr (.inr (stableF_oneW (fun g (hg:g=p) => by omega))) | exact .inr (.inr (stableF_rowW (fun g (hg:g=p) => ⟨by omega,by rw [hg];exact hup⟩))) | exact .inr (.inl (by kernel_rfl)) | apply And.intro)
 ·refine ⟨?_,?_,?_,?_,?_,?_,?_,?_,?_,?_,?_,?_,?_,trivial⟩
  all_goals
   intro a z hb hf
   have hzz:=hb.size
   have HBZ:=hide hb
   clear hb
   simp only [PlanFacts,List.getD_cons_zero,List.getD_cons_succ,Array.getD_eq_getD_getElem?] at hf
   try simp at hf
  ·go_simp
   exact ⟨_,rfl,Far.refl _ _,rfl⟩
  ·go_simp
   exact ⟨_,rfl,Far.refl _ _,rfl⟩
  ·go_simp
   exact ⟨_,rfl,Far.refl _ _,rfl⟩
  ·go_simp
   exact ⟨_,rfl,Far.refl _ _,rfl⟩
  ·have d1:z.cell? ⟨p,1,none⟩=some uv:=blk_cell (i:=1) ((unhide HBZ).blk (unhide H0) (by
    rintro ⟨q,hq,g1,g2,g3⟩
    simp at hq
    rcases hq with rfl | rfl
    ·exact hup g3
    ·exact absurd (show depB _ 12 4=false from g2) (by decide +kernel)))
   go_simp
   exact ⟨_,rfl,Far.refl _ _,rfl⟩
  ·go_simp
   exact ⟨_,rfl,Far.refl _ _,rfl⟩
  ·have d1:=(unhide HBZ).blk (unhide H1) (by
    rintro ⟨q,hq,g1,g2,g3⟩
    simp at hq
    rcases hq with rfl | rfl
    ·have:¬ uv.ownBlock=some w.heap.size:=fun e => ((unhide H2).ne (unhide H1) (by decide)) e
     exact this g3
    ·have g3:w.heap.size=p:=g3
     omega)
   rw [if_pos (by rfl)]
   refine oper_load_sec (.tmp 5) rfl w.heap.size (by simp [Act.eval,hf]) 214 S hS d1 ?_
   exact ⟨_,rfl,Far.refl _ _,rfl⟩
  ·rw [if_pos (by rfl)]
   refine oper_build_write (.tmp 35) (.tmp 36) rfl k S hS (by simp [Act.eval,hf]) (by simp [Act.eval,hf]) ?_
   exact ⟨_,rfl,Far.refl _ _,by rw [unhide HCS];rfl⟩
  ·rw [if_pos (by rfl)]
   refine oper_bs_write (.tmp 37) rfl cs hcs (by simp [Act.eval,hf]) ?_
   exact ⟨_,rfl,far_below ((Below.refl _ _).alloc (Nat.le_refl _) _),_,rfl,hzz,heap_alloc_new z _⟩
  ·have hoz:=(unhide H2).far (unhide HBZ) (by
    rintro g hg ⟨q,hq,g1,g2,g3⟩
    simp at hq
    rcases hq with rfl | rfl
    ·exact g1 rfl
    ·have g3:g=p:=g3
     exact hup (by rw [hg,g3]))
   obtain ⟨g,hg,hgB,hgh⟩:=hf.2
   refine step_app_o rfl (.tmp 34) (.tmp 38) 231 rfl 254 _ 65 72 Tryz.underlying231 info_write (by simp [Value.cells,bv_length,length_zeros]) uv 0 [] hoz (by simp [Act.eval,hf]) ⟨g,0,none⟩ 1 1 cs (by simp [Act.eval,hg]) (by omega) ?_ h1c (by omega) (by omega) (by omega) ?_
   ·intro j u hj
    rw [add_mk,blk_cell hgh,List.getElem?_toArray,Nat.zero_add]
    exact hj
   ·intro v' w' g1 g2
    exact ⟨v',rfl,footOf_of (.head _) (far_grown g2.grown),g1,loc_app hzz g2,Nat.le_trans hzz g2.grown.size⟩
  ·go_simp
   exact ⟨_,rfl,Far.refl _ _,rfl⟩
  ·go_simp
   exact ⟨_,rfl,Far.refl _ _,rfl⟩
  ·have d0:=(unhide HBZ).blk (unhide H0) (by
    rintro ⟨q,hq,g1,g2,g3⟩
    simp at hq
    rcases hq with rfl | rfl
    ·exact hup g3
    ·exact g1 rfl)
   have f1:z.frozen? ⟨p,1,none⟩=false:=blk_free (i:=1) d0
   have d1:z.cell? ⟨p,1,none⟩=some uv:=blk_cell (i:=1) d0
   obtain ⟨hv41,hrw⟩:=hf
   obtain ⟨ad,cap,hv39,_⟩:=hrw.1.shape
   have HD0:=hide d0
   have HRW:=hide hrw
   clear hrw d0
   rw [hv39] at HRW
   go_simp
   refine ⟨footOf_of (.tail _ (.head _)) (far_set z p 1 _),.slice ad 1 cap,?_,?_⟩
   ·have:=blk_set (j:=1) (v:=.slice ad 1 cap) (unhide HD0)
    rw [← hn']
    simpa using this
   ·have hR:=unhide HRW
    have hs2:=hR.2.2
    refine stableF_rowW (E:=fun j => j=p) (fun g (hg:g=p) => ⟨by omega,by rw [hg];exact hup⟩) _ _ _ hR (far_set z p 1 _)
 ·intro f z hF hwd
  have hput:=hwd.2.2.2.2.2.2.2.2.2.2.2.2.1
  have HP:=hide hput
  have HF:=hide hF
  clear hput hwd hF
  simp only [mergeT]
  generalize f 30=x30
  generalize f 31=x31
  generalize f 32=x32
  generalize f 33=x33
  generalize f 34=x34
  generalize f 35=x35
  generalize f 36=x36
  generalize f 37=x37
  generalize f 38=x38
  generalize f 39=x39
  generalize f 40=x40
  generalize f 41=x41
  go_simp
  go_wp2
  go_ret
  refine ⟨rfl,?_,?_⟩
  ·rw [← hn',← unhide HCS]
   obtain ⟨v,g1,g2,g3,g4⟩:=unhide HP
   exact ⟨v,g1,g2,loc_less g3 (by omega),by omega⟩
  ·refine ((unhide H3).mono (fun j _ h => .inl h)).trans (unhide HF) (fun j _ h => ?_)
   obtain ⟨q,hq,h⟩:=h
   simp at hq
   rcases hq with rfl | rfl
   ·exact .inr h
   ·exact .inl h
end Go.Proofs.YtamafdcnbcoegabGreat
namespace Go.Proofs.YtamafdcnbcoegabGreat
open Go.RowKit
def recA (b:ByteArray) (pl:Nat):Value:=.agg #[.string b,.int .i64 pl]
def zeroA:Value:=.agg #[.string ⟨#[]⟩,.int .i64 0]
theorem zero_A (w:World):(zeroValue 140).run Tryz.prog w = .ok zeroA w:=Tryz.zeroValue140 w
def AreA (l:List (Nat × Value)):Prop:=∀ x ∈ l,∃ b pl,x.2=recA b pl
theorem areA_look {l:List (Nat × Value)} (h:AreA l) (k:Int):(∃ b pl,look l k=some (recA b pl)) ∨ look l k=none:=by
 cases hv:look l k with
 | none => exact .inr rfl
 | some v =>
  obtain ⟨x,hx,_,rfl⟩:=look_mem hv
  obtain ⟨b,pl,e⟩:=h x hx
  exact .inl ⟨b,pl,by rw [e]⟩
set_option maxHeartbeats 400000 in
theorem hasA_any {w:World} {p o:Nat} {arr:Array Value} {t:TypeId} {nv mv:Value} {l:List (Nat × Value)} (hb:w.heap[p]? = some (.cells arr t (0,0))) (h1:arr[o+1]? = some mv) (S:ShelfIs w nv mv l) (A:AreA l) (n:Int) :
  Calls Tryz.prog 115 #[.pointer (some ⟨p,o,none⟩),.int .i64 n] w fun e w' => e = .returned (.bool (look l n).isSome)∧Below w.heap.size w w':=by
 have c1:w.cell? ⟨p,o+1,none⟩=some mv:=(blk_cell hb).trans h1
 have hrun:=(run_lookup_i (P:=Tryz.prog) (w:=w) (t:=102) Tryz.underlying102 Tryz.underlying3 (zero_A w) S.map n).1
 clear S hb h1
 rcases areA_look A n with ⟨b,pl,h⟩ | h
 all_goals
  rw [h] at hrun ⊢
  simp only [Option.getD_some,Option.getD_none,Option.isSome_some,Option.isSome_none,recA,zeroA] at hrun ⊢
  clear h A
  go_enter Tryz.func115,Tryz.ntmps115
  go_wp2
  go_ret
  refine ⟨rfl,?_⟩
  exact (Below.refl _ _).alloc (Nat.le_refl _) _
set_option maxRecDepth 100000 in
set_option maxHeartbeats 1000000 in
theorem putA_any {w:World} {p o:Nat} {t:TypeId} {arr:Array Value} {nv mv:Value} {l:List (Nat × Value)} (S:ShAt w p o t arr nv mv l) (hl:l.length < 1000) (n:Nat) (b:ByteArray) (pl:Nat) :
  Calls Tryz.prog 81 #[.pointer (some ⟨p,o,none⟩),.int .i64 n,recA b pl] w fun e w' => e = .returned (.tuple #[])∧ShStep w w' p o t arr nv mv (putL l n (recA b pl)):=by
 obtain ⟨hbW,h0,h1,S,ht⟩:=S
 obtain ⟨mv0,hmv0⟩:∃ m,m=mv:=⟨_,rfl⟩
 rw [← hmv0]
 have hmv0:=hide hmv0
 have c0:w.cell? ⟨p,o,none⟩=some nv:=(blk_cell hbW).trans h0
 have c1:w.cell? ⟨p,o+1,none⟩=some mv:=(blk_cell hbW).trans h1
 unfold recA
 have hp:=lt_of_block hbW
 go_enter Tryz.func81,Tryz.ntmps81
 go_upto_region 1 with fail
 refine wp_world (fun x => x.heap[p]? = some (.cells arr t (0,0))∧x.heap[w.heap.size]? = some (.cells #[.string b,.int .i64 pl] 140 (0,0))∧ShelfIs x nv mv l∧Far (fun _ => False) w x∧w.heap.size < x.heap.size) ?_ ?_
 ·have hf:Far (fun _ => False) w (w.alloc (.cells #[.string b,.int .i64 pl] 140)):=far_below ((Below.refl _ _).alloc (Nat.le_refl _) _)
  exact ⟨hf.blk hbW id,heap_alloc_new w _,S.far hf (fun _ _ h => h),hf,by simp⟩
 clear c0 c1 S
 rintro x ⟨hb,hbox,S,hf,hz⟩
 have c0:x.cell? ⟨p,o,none⟩=some nv:=(blk_cell hb).trans h0
 have c1:x.cell? ⟨p,o+1,none⟩=some mv:=(blk_cell hb).trans h1
 have hfr:x.frozen? ⟨p,o+1,none⟩=false:=by simp [World.frozen?,hb]
 have hmm:=@run_makeMap Tryz.prog
 have eqN:∀ y:World,(binOp .eql 102 (.map none) (.map none)).run Tryz.prog y = .ok (.bool true) y:=fun y => by kernel_rfl
 have eqS:∀ (y:World) (m:Nat),(binOp .eql 102 (.map (some m)) (.map none)).run Tryz.prog y = .ok (.bool false) y:=fun y m => by kernel_rfl
 have pM:(x.alloc (.map #[] 0)).heap[p]? = some (.cells arr t (0,0)):=(Below.heap_alloc x _ p (lt_of_block hb)).trans hb
 have cM:(x.alloc (.map #[] 0)).cell? ⟨p,o+1,none⟩=some mv:=(blk_cell pM).trans h1
 have fM:(x.alloc (.map #[] 0)).frozen? ⟨p,o+1,none⟩=false:=by simp [World.frozen?,pM]
 rcases S.map with ⟨rfl,hm⟩ | ⟨mb,rfl,hm⟩
 all_goals
  go_upto_region 3 with fail
  refine wp_world (fun y => ∃ mb,y.heap[p]? = some (.cells (arr.setIfInBounds (o+1) (.map (some mb))) t (0,0))∧y.heap[w.heap.size]? = some (.cells #[.string b,.int .i64 pl] 140 (0,0))∧NumsAt y nv (l.map (·.1))∧MapAt y mb (look l) ∧
   Far (fun k => k=p) w y∧w.heap.size < y.heap.size∧(mapBlock mv0=some mb ∨ w.heap.size ≤ mb)) ?_ ?_
 ·refine ⟨x.heap.size,blk_set pM,(blk_set_ne (by omega)).trans ((Below.heap_alloc x _ _ hz).trans hbox),?_,?_,?_,?_,.inr (Nat.le_of_lt hz)⟩
  ·exact S.nums.keep (fun g hg => (blk_set_ne (fun e => S.ne hb ht (.inl (by rw [← e];exact hg)))).trans (Below.heap_alloc x _ g (World.ownsRow.lt S.nums g hg).2))
  ·rw [hm]
   exact (mapAt_new x).keep (blk_set_ne (by have:=lt_of_block hb;omega))
  ·exact ((hf.mono (fun _ _ h => h.elim)).trans (far_below ((Below.refl _ x).alloc (Nat.le_refl _) _)) (fun _ _ h => h)).trans (far_set _ p (o+1) _) (fun _ _ h => h)
  ·simp;omega
 rotate_left
 ·refine ⟨mb,by rw [set_same h1];exact hb,hbox,S.nums,hm,hf.mono (fun _ _ h => h.elim),hz,.inl (by rw [unhide hmv0];rfl)⟩
 all_goals
  have hs:=hide S.sorted
  clear c0 c1 pM cM fM hfr hbox S hm hb hz hmm eqN eqS hf hp
  rintro y ⟨mb',hb,hbox,N,M,hfY,hz,hloc⟩
  have h0s:o < arr.size:=(Array.getElem?_eq_some_iff.1 h0).1
  have h1s:o+1 < arr.size:=(Array.getElem?_eq_some_iff.1 h1).1
  have a0:(arr.setIfInBounds (o+1) (.map (some mb')))[o]? = some nv:=by rw [Array.getElem?_setIfInBounds_ne (by omega)];exact h0
  have a1:(arr.setIfInBounds (o+1) (.map (some mb')))[o+1]? = some (.map (some mb')):=by simp [h1s]
  have c0:y.cell? ⟨p,o,none⟩=some nv:=(blk_cell hb).trans a0
  have hk:=keys_putL (v:=recA b pl) (n:=n) (unhide hs)
  have hsr:=search_any N (unhide hs) (by simp;omega) n
  have hcl:(l.map (·.1)).countP (· < n) ≤ (l.map (·.1)).length:=List.countP_le_length
  have hnl:(l.map (·.1)).length < 1000:=by simpa using hl
  generalize (l.map (·.1)).countP (· < n)=k at hk hsr hcl
  generalize (l.map (·.1)).contains n=c at hk hsr
  generalize l.map (·.1)=ns at hk hsr hcl N hnl
  replace hk:=hide hk
  replace hsr:=hide hsr
  cases c
  ·go_upto_region 4 with (go_at_call 125;refine (unhide hsr).mono ?_;rintro e y1 ⟨rfl,q,rfl⟩)
   go_upto_region 6 with fail
   refine (insert_any (w:=(y.drewN q).alloc (.cells #[.int .i64 n] 3)) (ns:=ns) (N.keep (fun g hg => Below.heap_alloc (y.drewN q) _ g (World.ownsRow.lt N g hg).2)) (by omega) k n y.heap.size hcl (heap_alloc_new (y.drewN q) _) (fun e => by have:=(World.ownsRow.lt N _ e).2;omega)).mono ?_
   rintro e z ⟨nv',rfl,hN',hF',hL'⟩
   have hbz:=hF'.blk ((Below.heap_alloc (y.drewN q) _ p (lt_of_block hb)).trans hb) (fun e => (RowO.of_own N).ne hb (fun e => ht e.symm) e)
   have hxz:=hF'.blk ((Below.heap_alloc (y.drewN q) _ _ hz).trans hbox) (fun e => (RowO.of_own N).ne hbox (by decide) e)
   have cz:=(blk_cell hbz).trans a0
   have fz:z.frozen? ⟨p,o,none⟩=false:=by simp [World.frozen?,hbz]
   obtain ⟨ns',hns'⟩:∃ x,x=ns.take k ++ n :: ns.drop k:=⟨_,rfl⟩
   rw [← hns'] at hN'
   obtain ⟨g',cap',rfl⟩:=own_shape hN' (by rw [hns'];simp only [List.length_append,List.length_cons];omega)
   replace hns':=hide hns'
   go_upto_region 6 with fail
   refine wp_world (fun z => ∃ nv',z.heap[p]? = some (.cells ((arr.setIfInBounds o nv').setIfInBounds (o+1) (.map (some mb'))) t (0,0))∧z.heap[w.heap.size]? = some (.cells #[.string b,.int .i64 pl] 140 (0,0))∧NumsAt z nv' ((putL l n (recA b pl)).map (·.1))∧MapAt z mb' (look l) ∧
    Far (fun k => k=p ∨ nv.ownBlock=some k) w z∧Loc w nv nv') ?_ ?_
   ·have hne:nv.ownBlock ≠ some mb':=N.notMap M
    have hpn:∀ g,(Value.slice (some ⟨g',0,none⟩) ns'.length cap').ownBlock=some g→g ≠ p:=fun g hg e => (RowO.of_own hN').ne hbz (fun e => ht e.symm) (by rw [hg,e])
    have hk':=unhide hk
    simp only [Bool.false_eq_true,if_false] at hk'
    have hfal:Far (fun _ => False) y ((y.drewN q).alloc (.cells #[.int .i64 n] 3)):=(far_drewN (fun _ => False) y q).trans (far_below ((Below.refl _ _).alloc (Nat.le_refl _) _)) (fun _ _ h => h)
    have hfz:Far (fun b => b=p ∨ nv.ownBlock=some b) w z:=(hfY.mono (fun _ _ h => .inl h)).trans ((hfal.mono (fun _ _ h => h.elim)).trans hF' (fun _ _ h => h)) (fun _ _ h => .inr h)
    refine ⟨_,?_,(blk_set_ne (by have:=lt_of_block hbW;omega)).trans hxz,?_,?_,hfz.trans (far_set z p o _) (fun _ _ h => .inl h),loc_less hL' (by simp;omega)⟩
    ·rw [set_comm _ _ (show o ≠ o+1 by omega)]
     exact blk_set hbz
    ·rw [hk',← unhide hns']
     exact hN'.keep (fun g hg => blk_set_ne (hpn g hg))
    ·exact M.keep ((blk_set_ne (fun e => M.not_cells (by rw [e];exact hb))).trans ((hF'.rest _ (by have:=M.lt;simp;omega) hne).trans (hfal.rest _ M.lt id)))
   ·skip
    rintro z ⟨nv',hb,hbox,N',M,hf,hl'⟩
    obtain ⟨ob,hU,hM⟩:=run_update_i (P:=Tryz.prog) (w:=z) (t:=102) Tryz.underlying102 Tryz.underlying3 M n (recA b pl)
    have hU':=hU z.drew rfl
    unfold recA at hU'
    have c1:z.cell? ⟨p,o+1,none⟩=some (.map (some mb')):=(blk_cell hb).trans (by simp [h1s])
    have b0:=blk_cell (i:=0) hbox
    have b1:=blk_cell (i:=1) hbox
    simp at b0 b1
    go_region
    refine bodyPost_end (results_none rfl _ _ _) rfl ⟨rfl,?_⟩
    exact put_end (v:=recA b pl) (W:={ z.drew with heap:=z.drew.heap.setIfInBounds mb' ob }) h0s h1s hb ht N' M hf hl' hloc hM ((far_drewN _ z 1).trans (far_block mb' ob) (fun _ _ h => h)) (unhide hs) hl
  ·go_upto_region 4 with (go_at_call 125;refine (unhide hsr).mono ?_;rintro e y1 ⟨rfl,q,rfl⟩)
   go_upto_region 6 with fail
   refine wp_world (fun z => ∃ nv',z.heap[p]? = some (.cells ((arr.setIfInBounds o nv').setIfInBounds (o+1) (.map (some mb'))) t (0,0))∧z.heap[w.heap.size]? = some (.cells #[.string b,.int .i64 pl] 140 (0,0))∧NumsAt z nv' ((putL l n (recA b pl)).map (·.1))∧MapAt z mb' (look l) ∧
    Far (fun k => k=p ∨ nv.ownBlock=some k) w z∧Loc w nv nv') ?_ ?_
   ·have hk':=unhide hk
    simp only [if_true] at hk'
    refine ⟨nv,?_,hbox,by rw [hk'];exact N,M,(hfY.mono (fun _ _ h => .inl h)).trans (far_drewN _ y q) (fun _ _ h => h),.inr (.inl rfl)⟩
    rw [set_same h0]
    exact hb
   ·skip
    rintro z ⟨nv',hb,hbox,N',M,hf,hl'⟩
    obtain ⟨ob,hU,hM⟩:=run_update_i (P:=Tryz.prog) (w:=z) (t:=102) Tryz.underlying102 Tryz.underlying3 M n (recA b pl)
    have hU':=hU z.drew rfl
    unfold recA at hU'
    have c1:z.cell? ⟨p,o+1,none⟩=some (.map (some mb')):=(blk_cell hb).trans (by simp [h1s])
    have b0:=blk_cell (i:=0) hbox
    have b1:=blk_cell (i:=1) hbox
    simp at b0 b1
    go_region
    refine bodyPost_end (results_none rfl _ _ _) rfl ⟨rfl,?_⟩
    exact put_end (v:=recA b pl) (W:={ z.drew with heap:=z.drew.heap.setIfInBounds mb' ob }) h0s h1s hb ht N' M hf hl' hloc hM ((far_drewN _ z 1).trans (far_block mb' ob) (fun _ _ h => h)) (unhide hs) hl
end Go.Proofs.YtamafdcnbcoegabGreat
namespace Go.Proofs.YtamafdcnbcoegabGreat
open Go.RowKit
set_option maxHeartbeats 400000 in
theorem lenA_any {w:World} {p o:Nat} {arr:Array Value} {t:TypeId} {nv mv:Value} {l:List (Nat × Value)} (hb:w.heap[p]? = some (.cells arr t (0,0))) (h0:arr[o]? = some nv) (S:ShelfIs w nv mv l) :
  Calls Tryz.prog 110 #[.pointer (some ⟨p,o,none⟩)] w fun e w' => e = .returned (.int .i64 l.length)∧w' = w:=by
 have c0:w.cell? ⟨p,o,none⟩=some nv:=(blk_cell hb).trans h0
 have hl:(l.map (·.1)).length=l.length:=List.length_map _
 rcases S.nums.cases with ⟨rfl,hz⟩ | ⟨g,cap,cur,rfl,hh,hn,hc,hz,htk⟩
 ·obtain rfl:l = []:=by simpa using hz
  go_enter Tryz.func110,Tryz.ntmps110
  go_wp2
  go_ret
  exact ⟨rfl,rfl⟩
 ·rw [hl] at c0
  clear hb S h0 hh hn htk hl
  generalize l.length=n at *
  go_enter Tryz.func110,Tryz.ntmps110
  go_wp2
  go_ret
  exact ⟨rfl,rfl⟩
theorem last_get {l:List (Nat × Value)} {x:Nat × Value}:(numCells ((l ++ [x]).map (·.1)))[l.length]? = some (.int .i64 (x.1:Int)):=by
 simp [numCells]
set_option maxHeartbeats 400000 in
theorem lastA_any {w:World} {p o:Nat} {arr:Array Value} {t:TypeId} {nv mv:Value} {l:List (Nat × Value)} (hb:w.heap[p]? = some (.cells arr t (0,0))) (h0:arr[o]? = some nv) (S:ShelfIs w nv mv l) :
  Calls Tryz.prog 122 #[.pointer (some ⟨p,o,none⟩)] w fun e w' => e = .returned (.tuple #[.int .i64 (match l.getLast? with | none => 0 | some x => x.1:Nat),.bool l.getLast?.isSome])∧∃ n,w' = w.drewN n:=by
 have c0:w.cell? ⟨p,o,none⟩=some nv:=(blk_cell hb).trans h0
 have hl:(l.map (·.1)).length=l.length:=List.length_map _
 rcases List.eq_nil_or_concat l with rfl | ⟨l',x,hlx⟩
 ·obtain ⟨ad,cap,e,_⟩:=(RowO.of_own S.nums).shape
  subst e
  simp only [List.map_nil,List.length_nil] at c0
  clear hb S h0 hl
  go_enter Tryz.func122,Tryz.ntmps122
  go_wp2
  go_ret2
  exact ⟨rfl,0,rfl⟩
 ·obtain rfl:l=l' ++ [x]:=by rw [hlx,List.concat_eq_append]
  clear hlx
  rcases S.nums.cases with ⟨rfl,hz⟩ | ⟨g,cap,cur,rfl,hh,hn,hc,hz,htk⟩
  ·simp at hz
  ·have hlen:((l' ++ [x]).map (·.1)).length=l'.length+1:=by simp
   have cx:w.cell? ⟨g,l'.length,none⟩=some (.int .i64 (x.1:Int)):=by
    rw [World.ownsRow.cellAt S.nums l'.length (by simp)]
    exact last_get
   have hsm:=S.len
   simp only [List.length_append,List.length_singleton] at hsm
   rw [hlen] at c0
   have hg:(l' ++ [x]).getLast? = some x:=by simp
   rw [hg]
   clear hb S h0 hh hn htk hl hlen hg
   generalize l'.length=n at *
   have hw:IntKind.i64.wrap ((n:Int)+1 - 1)=n:=by rw [IntKind.wrap_i64];omega
   go_enter Tryz.func122,Tryz.ntmps122
   go_wp2
   go_quiet (fail)
   go_wp2
   go_ret2
   exact ⟨rfl,_,rfl⟩
end Go.Proofs.YtamafdcnbcoegabGreat
namespace Go.Proofs.YtamafdcnbcoegabGreat
open Go.RowKit
def cutAt (l:List (Nat × Value)) (n:Nat):Nat:=l.countP (·.1 ≤ n)
theorem cut_sum {ns:List Nat} {n:Nat} (hs:ns.Pairwise (· < ·)):ns.countP (· < n)+(if ns.contains n then 1 else 0)=ns.countP (· ≤ n):=by
 induction ns with
 | nil => rfl
 | cons x r ih =>
  rw [List.pairwise_cons] at hs
  obtain ⟨h0,hs⟩:=hs
  have ih:=ih hs
  rw [List.countP_cons,List.countP_cons,List.contains_cons]
  by_cases h1:x=n
  ·subst h1
   have hn:r.contains x=false:=by
    cases h:r.contains x with
    | false => rfl
    | true => have:=h0 x (by simpa using h);omega
   rw [hn] at ih
   simp only [Bool.false_eq_true,if_false,Nat.add_zero] at ih
   simp [ih]
  ·have hne:(n == x)=false:=by simp;omega
   rw [hne,Bool.false_or]
   generalize (if r.contains n=true then 1 else 0)=z at *
   by_cases h2:x < n
   ·have h3:x ≤ n:=by omega
    simp only [h2,h3,decide_true,if_true]
    omega
   ·have h3:¬ x ≤ n:=by omega
    simp only [h2,h3,decide_false,Bool.false_eq_true,if_false]
    omega
theorem cut_eq {l:List (Nat × Value)} {n:Nat} (hs:(l.map (·.1)).Pairwise (· < ·)):(l.map (·.1)).countP (· < n)+(if (l.map (·.1)).contains n then 1 else 0)=cutAt l n:=by
 rw [cut_sum hs,List.countP_map]
 rfl
theorem cut_le (l:List (Nat × Value)) (n:Nat):cutAt l n ≤ l.length:=List.countP_le_length
theorem cut_split {l:List (Nat × Value)} {n:Nat} (hs:(l.map (·.1)).Pairwise (· < ·)):(∀ x ∈ l.take (cutAt l n),x.1 ≤ n)∧∀ x ∈ l.drop (cutAt l n),n < x.1:=by
 induction l with
 | nil => simp [cutAt]
 | cons x r ih =>
  rw [List.map_cons,List.pairwise_cons] at hs
  obtain ⟨h0,hs⟩:=hs
  obtain ⟨i1,i2⟩:=ih hs
  by_cases h:x.1 ≤ n
  ·have hc:cutAt (x :: r) n=cutAt r n+1:=by simp [cutAt,h]
   rw [hc,List.take_succ_cons,List.drop_succ_cons]
   refine ⟨fun y hy => ?_,i2⟩
   cases hy with
   | head => exact h
   | tail _ hy => exact i1 y hy
  ·have hc:cutAt (x :: r) n=0:=by
    unfold cutAt
    rw [List.countP_eq_zero]
    intro y hy
    cases hy with
    | head => simpa using h
    | tail _ hy =>
     have:=h0 y.1 (List.mem_map.2 ⟨y,hy,rfl⟩)
     simp;omega
   rw [hc]
   refine ⟨by simp,fun y hy => ?_⟩
   cases hy with
   | head => omega
   | tail _ hy =>
    have:=h0 y.1 (List.mem_map.2 ⟨y,hy,rfl⟩)
    omega
theorem del_look {x:Nat × Value} {r:List (Nat × Value)} (h:∀ y ∈ r,x.1 < y.1):delF (look (x :: r)) x.1=look r:=by
 funext k
 unfold delF
 by_cases hk:k=(x.1:Int)
 ·rw [if_pos hk]
  cases hv:look r k with
  | none => rfl
  | some v =>
   obtain ⟨y,hy,e,_⟩:=look_mem hv
   have:=h y hy
   omega
 ·rw [if_neg hk,look_cons,if_neg hk]
theorem Far.behind {E:Nat→Prop} {w x y:World} (h:Far E w x) (h':Below w.heap.size x y):Far E w y :=
 ⟨h'.os.trans h.os,h'.tape.trans h.tape,h'.output.trans h.output,Nat.le_trans h.size h'.size,fun k hk he => (h'.block k hk).trans (h.rest k hk he)⟩
theorem ownsRow_keep2 {w w':World} {B size:Nat} {e:TypeId} {v:Value} {n:Nat} {xs:List Value} (h:w.ownsRow B e size v n xs) (hk:∀ g,v.ownBlock=some g→w'.heap[g]? = w.heap[g]?):w'.ownsRow B e size v n xs:=by
 obtain ⟨h1,h2⟩:=h
 refine ⟨h1,?_⟩
 rcases h2 with h2 | ⟨g,cap,cur,rfl,hb,hh,r⟩
 ·exact .inl h2
 ·exact .inr ⟨g,cap,cur,rfl,hb,by rw [hk g rfl];exact hh,r⟩
def vcells:Value→List Value
 | .agg a => a.toList
 | v => [v]
def flat (l:List (Nat × Value)):List Value:=l.flatMap fun x => vcells x.2
theorem flat_snoc (l:List (Nat × Value)) (x:Nat × Value):flat (l ++ [x])=flat l ++ vcells x.2:=by simp [flat]
structure ShTook (w x:World) (p o:Nat) (t:TypeId) (arr:Array Value) (nv mv:Value) (l':List (Nat × Value)):Prop where
 out:∃ nv',ShAt x p o t (arr.setIfInBounds o nv') nv' mv l' ∧ nv'.ownBlock=nv.ownBlock
 far:Far (fun k => k=p ∨ ShU nv mv k) w x
theorem ShTook.step {w x:World} {p o:Nat} {t:TypeId} {arr:Array Value} {nv mv:Value} {l':List (Nat × Value)} (h:ShTook w x p o t arr nv mv l') (h1:arr[o+1]? = some mv):ShStep w x p o t arr nv mv l':=by
 obtain ⟨nv',S,e⟩:=h.out
 have e2:(arr.setIfInBounds o nv').setIfInBounds (o+1) mv=arr.setIfInBounds o nv':=set_same (by rw [Array.getElem?_setIfInBounds_ne (by omega)];exact h1)
 exact ⟨⟨nv',mv,by rw [e2];exact S,.inr (.inl e),.inl rfl⟩,h.far⟩
theorem infoRA:(Tryz.prog.info? 140).map (fun i => (i.zero,i.size,i.bytes))=some (some (.agg #[.string ⟨#[]⟩,.int .i64 0]),2,24):=by kernel_rfl
set_option maxRecDepth 100000 in
set_option maxHeartbeats 2000000 in
theorem takeUpToA_any {w:World} {p o:Nat} {t:TypeId} {arr:Array Value} {nv mv:Value} {l:List (Nat × Value)} (S:ShAt w p o t arr nv mv l) (A:AreA l) (n:Nat) :
  Calls Tryz.prog 166 #[.pointer (some ⟨p,o,none⟩),.int .i64 n] w fun e w' => ∃ v,e = .returned v ∧
   w'.ownsRow w.heap.size 140 2 v (cutAt l n) (flat (l.take (cutAt l n)))∧ShTook w w' p o t arr nv mv (l.drop (cutAt l n)):=by
 obtain ⟨hbW,h0,h1,S,ht⟩:=S
 have h0s:o < arr.size:=(Array.getElem?_eq_some_iff.1 h0).1
 have h1s:o+1 < arr.size:=(Array.getElem?_eq_some_iff.1 h1).1
 have c0:w.cell? ⟨p,o,none⟩=some nv:=(blk_cell hbW).trans h0
 have hlen:=S.len
 have hsr:=search_any S.nums S.sorted (by simp;omega) n
 have hcut:=cut_eq (n:=n) S.sorted
 have hcl:=cut_le l n
 have hk0:(l.map (·.1)).countP (· < n) ≤ l.length:=by have:=List.countP_le_length (p:=(· < n)) (l:=l.map (·.1));simpa using this
 obtain ⟨i0,hi,hz0,hz1,hz2⟩:=info_parts2 infoRA
 generalize cutAt l n=ce at *
 generalize (l.map (·.1)).countP (· < n)=k0 at *
 generalize (l.map (·.1)).contains n=c at *
 have hkl:(l.map (·.1)).length=l.length:=List.length_map _
 have SS:=hide S
 have HL:=hide hkl
 replace hsr:=hide hsr
 rcases S.nums.cases with ⟨hnv,hlz⟩ | ⟨g,cap,cur,hnv,hh,hn,hc,hz,htk⟩
 ·subst hnv
  obtain rfl:l = []:=by simpa using hlz
  obtain rfl:ce=0:=by simpa using hcl
  obtain rfl:k0=0:=by simpa using hk0
  have hc:c=false:=by cases c <;> simp_all
  subst hc
  have hde:=fun y:World => delete_any (numsAt_nil y) 0 0 (by omega) (by simp)
  simp only [show ((0:Nat):Int)=0 from rfl,List.take_nil,List.drop_nil,List.nil_append] at hde
  have HDE:=fun y => hide (hde y)
  clear S hkl hde hcut hk0 hcl hlz
  simp only [show ((0:Nat):Int)=0 from rfl] at hsr
  go_enter Tryz.func166,Tryz.ntmps166
  go_upto_region 5 with (go_at_call 125;refine (unhide hsr).mono ?_;rintro e y ⟨rfl,q,rfl⟩)
  go_wp2
  go_loopw [5,9,29] (fun v5 _ i wr => v5 = .slice none 0 0∧i = .int .i64 0∧wr=w.drewN q) (fun _ _ i _ => 0)
  case atStart => exact ⟨rfl,rfl,rfl⟩
  case round =>
   obtain ⟨rfl,rfl,rfl⟩:=hrel
   go_upto_region 12 with fail
   refine (unhide (HDE _)).mono ?_
   rintro e z ⟨nv',rfl,N',hF',hown⟩
   obtain rfl:nv' = .slice none 0 0:=by
    rcases N'.cases with ⟨h,_⟩ | ⟨g',cap',cur',rfl,_⟩
    ·exact h
    ·cases hown
   have hfz:Far (fun _ => False) w z:=(far_drewN (fun _ => False) w q).trans (hF'.mono (fun _ _ h => by cases h)) (fun _ _ h => h)
   have hbz:=hfz.blk hbW id
   have cz:=(blk_cell hbz).trans h0
   have fz:z.frozen? ⟨p,o,none⟩=false:=by simp [World.frozen?,hbz]
   replace N':=hide N'
   replace hfz:=hide hfz
   clear hF' hown
   go_wp2
   go_ret
   have S0:=unhide SS
   have hE:z.setCell ⟨p,o,none⟩ (.slice none 0 0)=z.setCell ⟨p,o,none⟩ (.slice none 0 0):=rfl
   refine ⟨_,rfl,World.ownsRow_nil _ _ _ _,⟨_,⟨blk_set hbz,by simp [h0s],by rw [Array.getElem?_setIfInBounds_ne (by omega)];exact h1,⟨numsAt_nil _,(S0.far (unhide hfz) (fun _ _ h => h)).map.keep (fun b hb' => blk_set_ne (fun e => ?_)),by simp,by simp⟩,ht⟩,rfl⟩,((unhide hfz).mono (fun _ _ h => h.elim)).trans (far_set z p o _) (fun _ _ h => .inl h)⟩
   exact S0.ne hbW ht (.inr (by rw [hb',e]))
 ·rw [hkl] at hnv hn
  subst hnv
  have N0:=hide S.nums
  cases c
  all_goals
   simp only [if_true,if_false,Bool.false_eq_true,Nat.add_zero] at hcut
   clear S htk hkl
   try (rw [hcut] at hsr)
   have hcI:((k0:Int)+1=(ce:Int))=((k0:Int)+1=(ce:Int)):=rfl
   try (have hcI:(k0:Int)+1=ce:=by omega)
   replace hcut:=hide hcut
   go_enter Tryz.func166,Tryz.ntmps166
   go_upto_region 5 with (go_at_call 125;refine (unhide hsr).mono ?_;rintro e y ⟨rfl,q,rfl⟩)
  all_goals
   go_wp2
   go_loopw [5,9,29] (fun v5 _ i wr => ∃ k:Nat,k ≤ ce∧i = .int .i64 k∧wr.ownsRow w.heap.size 140 2 v5 k (flat (l.take k))∧wr.heap[p]? = some (.cells arr t (0,0))∧NumsAt wr (.slice (some ⟨g,0,none⟩) l.length cap) (l.map (·.1))∧MapV wr mv (look (l.drop k))∧Far (fun b => mapBlock mv=some b) w wr) (fun _ _ i _ => l.length - (intOf i).toNat)
   case atStart => exact ⟨0,by omega,rfl,World.ownsRow_nil _ _ _ _,hbW,(unhide SS).nums,by rw [List.drop_zero];exact (unhide SS).map,far_drewN _ w q⟩
   case round =>
    obtain ⟨k,hk,rfl,ho,hb,N,M,hf⟩:=hrel
    by_cases hlt:k < ce
    ·have hkl:k < l.length:=by omega
     obtain ⟨b,pl,hx⟩:=A l[k] (List.getElem_mem hkl)
     have hdr:l.drop k=l[k] :: l.drop (k+1):=List.drop_eq_getElem_cons hkl
     have hlk:look (l.drop k) (l[k].1:Int)=some l[k].2:=by rw [hdr,look_cons,if_pos rfl]
     have hsorted:=(unhide SS).sorted
     have hgt:∀ y ∈ l.drop (k+1),l[k].1 < y.1:=fun y hy => by
      have h1:((l.drop k).map (·.1)).Pairwise (· < ·):=by rw [List.map_drop];exact hsorted.drop
      rw [hdr,List.map_cons,List.pairwise_cons] at h1
      exact h1.1 y.1 (List.mem_map.2 ⟨y,hy,rfl⟩)
     have hdel:=del_look hgt
     rw [← hdr] at hdel
     have htake:flat (l.take (k+1))=flat (l.take k) ++ vcells l[k].2:=by rw [← flat_snoc,List.take_add_one,List.getElem?_eq_getElem hkl];rfl
     have c0:=(blk_cell hb).trans h0
     have c1:=(blk_cell hb).trans h1
     have cn:wr.cell? ⟨g,k,none⟩=some (.int .i64 (l[k].1:Int)):=by
      rw [N.cell' (by simpa using hkl)]
      simp [List.getD_eq_getElem?_getD,hkl]
     rcases M with ⟨rfl,hM⟩ | ⟨mb,rfl,hM⟩
     ·rw [hM] at hlk;cases hlk
     have hrun:=(run_lookup_i (P:=Tryz.prog) (w:=wr) (t:=102) Tryz.underlying102 Tryz.underlying3 (zero_A wr) (.inr ⟨mb,rfl,hM⟩) (l[k].1:Int)).2
     rw [hlk,hx] at hrun
     rw [hx] at htake
     simp only [Option.getD_some,recA] at hrun
     have HT:=hide htake
     have HD:=hide hdel
     have HO:=hide ho
     have HN:=hide N
     have HM:=hide hM
     have HF:=hide hf
     have HX:=hide hx
     clear ho N hM hf htake hdel hlk hx hdr hgt hsorted
     generalize hxn:l[k].1=xn at *
     replace hxn:=hide hxn
     have hsz:=(unhide HF).size
     have hmb:mb < w.heap.size:=(unhide SS).map.lt mb rfl
     have hpw:=lt_of_block hbW
     have hk5:=fun g' (hg':u5.ownBlock=some g') => World.ownsRow.lt (unhide HO) g' hg'
     go_upto_region 9 with (at_builtin;refine wpList_append_own _ rfl (.tmp 33) (.tmp 40) 246 rfl w.heap.size 140 i0 (.agg #[.string ⟨#[]⟩,.int .i64 0]) 2 24 Tryz.underlying246 hi hz0 hz1 hz2 rfl (by decide) u5 k (flat (l.take k)) rfl ((unhide HO).alloc _) ⟨wr.heap.size,0,none⟩ 1 1 (vcells (recA b pl)) rfl rfl cells_new (by intro u hu;simp [vcells,recA] at hu;first | (rcases hu with rfl | rfl <;> rfl) | (subst hu;rfl)) (by unfold maxLen;omega) (by omega) (by simp;omega) ?_;intro v' w1 hown' hgrow _;have hb1:Below w.heap.size wr w1:=((Below.refl _ wr).alloc hsz _).trans (below_grown_new (B:=w.heap.size) hgrow (by simp;omega) (fun g' hg' => (hk5 g' hg').1));obtain ⟨ob,hU,hM1⟩:=run_delete_i (P:=Tryz.prog) (w:=w1) (t:=102) (K':=3) Tryz.underlying102 Tryz.underlying3 ((unhide HM).keep (hb1.block mb hmb)) xn;have hU2:=fun ty => hU ty w1 rfl;have hp1:=(hb1.block p hpw).trans hb;have c1':=(blk_cell hp1).trans h1;replace hown':=hide hown';replace hM1:=hide hM1;replace hb1:=hide hb1;clear hgrow hU)
     go_wp2
     have hpm:p ≠ mb:=fun e => (unhide HM).not_cells (by rw [← e];exact hb)
     have hnm:=(unhide HN).notMap (unhide HM)
     have hg:=(World.ownsRow.lt (unhide HN) g rfl).2
     have hgw:g < w.heap.size:=lt_of_block hh
     have hW:=far_block (w:=w1) mb ob
     have hN1:=(unhide HN).keep (w':={ w1 with heap:=w1.heap.setIfInBounds mb ob }) (fun g' hg' => by
      cases hg'
      exact (hW.rest g (Nat.lt_of_lt_of_le hgw (Nat.le_trans hsz (unhide hb1).size)) (fun e => hnm (by rw [e];rfl))).trans ((unhide hb1).block g hgw))
     have ho1:=ownsRow_keep2 (w':={ w1 with heap:=w1.heap.setIfInBounds mb ob }) (unhide hown') (fun g' hg' => hW.rest g' (World.ownsRow.lt (unhide hown') g' hg').2 (fun e => by have:=(World.ownsRow.lt (unhide hown') g' hg').1;omega))
     refine ⟨⟨k+1,by omega,by go_num,by rw [unhide HT];exact ho1,(hW.rest p (lt_of_block hp1) hpm).trans hp1,hN1,.inr ⟨mb,rfl,by rw [← unhide HD];exact unhide hM1⟩,
      ((unhide HF).behind (unhide hb1)).trans hW (fun _ _ h => by rw [h];rfl)⟩,by simp [intOf];omega⟩
    ·obtain rfl:k=ce:=by omega
     have HO:=hide ho
     have HN:=hide N
     have HM:=hide M
     have HF:=hide hf
     have hll:(l.map (·.1)).length=l.length:=List.length_map _
     have hgp:g ≠ p:=fun e => (RowO.of_own N).ne hb (fun e => ht e.symm) (by rw [← e];rfl)
     have c0:=(blk_cell hb).trans h0
     have hde:=delete_any N 0 k (by omega) (by omega)
     rw [show ((0:Nat):Int)=0 from rfl,List.take_zero,List.nil_append,← List.map_drop] at hde
     replace hde:=hide hde
     clear ho N M hf hll
     go_upto_region 12 with fail
     refine (unhide hde).mono ?_
     rintro e z ⟨nv',rfl,N',hF',hown⟩
     have hbz:=hF'.blk hb (fun e => hgp (by cases e;rfl))
     have cz:=(blk_cell hbz).trans h0
     have fz:z.frozen? ⟨p,o,none⟩=false:=by simp [World.frozen?,hbz]
     have hlk:(List.map (fun x => x.1) (List.drop k l)).length=l.length - k:=by simp
     have hsh:=(RowO.of_own N').shape
     rw [hlk] at hsh
     obtain ⟨ad',cap',rfl,_⟩:=hsh
     replace hlk:=hide hlk
     replace N':=hide N'
     replace hown:=hide hown
     replace hF':=hide hF'
     go_wp2
     go_ret
     have S0:=unhide SS
     have hfar:Far (fun b => b=p ∨ ShU (.slice (some ⟨g,0,none⟩) l.length cap) mv b) w z:=((unhide HF).mono (fun _ _ h => .inr (.inr h))).trans (unhide hF') (fun _ _ h => .inr (.inl h))
     have hkeep:∀ b,b ≠ p→(z.setCell ⟨p,o,none⟩ (.slice ad' (l.length - k) cap')).heap[b]? = z.heap[b]?:=fun b hb => blk_set_ne hb
     have hmz:∀ b,mapBlock mv=some b→b ≠ p∧z.heap[b]? = wr.heap[b]?:=fun b hb' => by
      rcases unhide HM with ⟨h,_⟩ | ⟨b',h,hM'⟩
      ·rw [h] at hb';cases hb'
      ·rw [h] at hb';cases hb'
       exact ⟨fun e => hM'.not_cells (by rw [e];exact hb),(unhide hF').rest b hM'.lt (fun e => (unhide HN).notMap hM' e)⟩
     refine ⟨_,rfl,ownsRow_keep2 (unhide HO) (fun g' hg' => ?_),⟨_,⟨blk_set hbz,by simp [h0s],by rw [Array.getElem?_setIfInBounds_ne (by omega)];exact h1,⟨(unhide N').keep (fun g' hg' => hkeep g' ?_),(unhide HM).keep (fun b hb' => (hkeep b (hmz b hb').1).trans (hmz b hb').2),by rw [List.map_drop];exact S0.sorted.drop,by rw [List.length_drop];omega⟩,ht⟩,unhide hown⟩,hfar.trans (far_set z p o _) (fun _ _ h => .inl h)⟩
     ·have hg5:=World.ownsRow.lt (unhide HO) g' hg'
      have hpw:=lt_of_block hbW
      have hgw:=lt_of_block hh
      exact (hkeep g' (by omega)).trans ((unhide hF').rest g' hg5.2 (fun e => by have e2:g=g':=Option.some.inj e;omega))
     ·rw [unhide hown] at hg'
      cases hg'
      exact hgp
end Go.Proofs.YtamafdcnbcoegabGreat
namespace Go.Proofs.YtamafdcnbcoegabGreat
open Go.RowKit
theorem run_loadVar_at {P:Program} (w:World) (a:Addr) (ty:TypeId) (cs:List Value) (hc:∀ j v,cs[j]? = some v→w.cell? (a.add j)=some v)
  (hagg:(isAgg ty).run P w = .ok true w) (hi:(P.info? ty).map (·.size)=some cs.length) :
  (loadVar ty a).run P w = .ok (.agg cs.toArray) w:=by
 have hl:(loadCells a cs.length).run P w = .ok cs.toArray w:=run_loadCells_list (P:=P) w a cs hc
 cases hq:P.info? ty with
 | none => simp [hq] at hi
 | some i =>
  have hs:i.size=cs.length:=by simpa [hq] using hi
  simp [loadVar,Sem.run_bind,hagg,sizeOf,typeInfo,hq,hs,hl]
theorem isAgg_write (w:World):(isAgg 254).run Tryz.prog w = .ok true w:=by
 simp [isAgg,run_underlying Tryz.underlying254]
theorem size_write:(Tryz.prog.info? 254).map (·.size)=some 65:=by kernel_rfl
theorem wpList_load_write {ops:Array Oper} {rest:List Oper} {o:Oper} {a:Act} {w:World} {Q:Exit→Act→World→Prop} (hgd:o.guard=none) (x:Operand) (ho:o.op = .load 254 x)
  (ad:Addr) (hx:a.eval x = .pointer (some ad)) (cs:List Value) (hcs:cs.length=65) (hc:∀ j v,cs[j]? = some v→w.cell? (ad.add j)=some v)
  (h:wpList Tryz.prog ops Q rest (a.put o.dst (.agg cs.toArray)) w):wpList Tryz.prog ops Q (o :: rest) a w:=by
 refine wpList_plain hgd fun K hK => ?_
 unfold Oper.wp execOp
 simp only [ho,hx,Instr.loadAt,Instr.sureAddr,Sem.run_bind,Sem.run_pure,Result.andThen_ok,run_loadVar_at w ad 254 cs hc (isAgg_write w) (by rw [size_write,hcs])]
 exact hK _ _ h
theorem oper_load_write {o:Oper} {a:Act} {w:World} {K:Act→World→Prop} {Q:Exit→Act→World→Prop} (x:Operand) (ho:o.op = .load 254 x)
  (ad:Addr) (hx:a.eval x = .pointer (some ad)) (cs:List Value) (hcs:cs.length=65) (hc:∀ j v,cs[j]? = some v→w.cell? (ad.add j)=some v)
  (h:K (a.put o.dst (.agg cs.toArray)) w):o.wp Tryz.prog a w K Q:=by
 unfold Oper.wp execOp
 simp only [ho,hx,Instr.loadAt,Instr.sureAddr,Sem.run_bind,Sem.run_pure,Result.andThen_ok,run_loadVar_at w ad 254 cs hc (isAgg_write w) (by rw [size_write,hcs])]
 exact h
theorem sync_dead (w:World) (p:Nat) (lv uv:Value) (n:Int) (hb:w.heap[p]? = some (.cells #[lv,uv,.int .i64 n,.bool true] 233 (0,0))) :
  Calls Tryz.prog 170 #[.pointer (some ⟨p,0,none⟩)] w fun r w' => r = .returned (.tuple #[])∧w' = w:=by
 have c3:w.cell? ⟨p,3,none⟩=some (.bool true):=blk_cell (i:=3) hb
 clear hb
 go_enter Tryz.func170,Tryz.ntmps170
 go_wp2
 exact bodyPost_ret (results_none rfl _ _ _) rfl ⟨rfl,rfl⟩
structure SyAt (w x:World) (p:Nat) (lv:Value) (g o cap:Nat) (n:Int) (cs:List Value) (L:List UInt8):Prop where
 blk:x.heap[p]? = some (.cells #[lv,.slice (some ⟨g,o,none⟩) 1 cap,.int .i64 n,.bool false] 233 (0,0))
 un:RowO x 254 65 (.slice (some ⟨g,o,none⟩) 1 cap) 1 cs
 row:x.ownsRow 0 5 1 lv L.length (bv L)
 far:Far (fun j => lv.ownBlock=some j) w x
set_option maxRecDepth 100000 in
set_option maxHeartbeats 4000000 in
theorem sync_one (w:World) (p:Nat) (lv uv:Value) (n:Int) (k:Nat) (S L:List UInt8) (hS:S.length=64) (hk:64 * k+64 ≤ L.length) (hL:L.length ≤ 10000)
  (hb:w.heap[p]? = some (.cells #[lv,uv,.int .i64 n,.bool false] 233 (0,0))) (hu:RowO w 254 65 uv 1 (.int .i64 k :: bv S)) (hr:w.ownsRow 0 5 1 lv L.length (bv L)) :
  Calls Tryz.prog 170 #[.pointer (some ⟨p,0,none⟩)] w fun r w' => r = .returned (.tuple #[]) ∧
   ∃ uv',w'.heap[p]? = some (.cells #[lv,uv',.int .i64 n,.bool false] 233 (0,0))∧uv'.ownBlock=uv.ownBlock∧RowO w' 254 65 uv' 0 [] ∧
    w'.ownsRow 0 5 1 lv (Mod.setSec L k S).length (bv (Mod.setSec L k S))∧Far (fun j => j=p ∨ lv.ownBlock=some j) w w':=by
 obtain ⟨cs,hcsd⟩:∃ cs,cs=Value.int .i64 k :: bv S:=⟨_,rfl⟩
 rw [← hcsd] at hu
 have hcs:cs.length=65:=by rw [hcsd];simp [bv_length,hS]
 have h1c:∀ u ∈ cs,u.oneCell' = true:=by
  rw [hcsd]
  intro u hu
  cases hu with
  | head => rfl
  | tail _ hu => exact bv_oneCell S u hu
 have HCS:=hide hcsd
 clear hcsd
 obtain ⟨ad,cap,rfl,hc1,hc2,hsh⟩:=hu.shape
 obtain ⟨g,o,rfl,hcell⟩:=hsh (by omega)
 have hpl:=lt_of_block hb
 have SY0:SyAt w w p lv g o cap n cs L:=⟨hb,hu,hr,Far.refl _ _⟩
 have c3:w.cell? ⟨p,3,none⟩=some (.bool false):=blk_cell (i:=3) hb
 have c1:w.cell? ⟨p,1,none⟩=some (.slice (some ⟨g,o,none⟩) 1 cap):=blk_cell (i:=1) hb
 have HS0:=hide SY0
 clear hb hu hr SY0 hcell hsh
 go_enter Tryz.func170,Tryz.ntmps170
 go_upto_region 2 with fail
 go_wp2
 go_loopw [3,13] (fun _ i wr => ∃ j:Nat,j ≤ 1∧i = .int .i64 j∧SyAt w wr p lv g o cap n cs (if j=0 then L else Mod.setSec L k S)) (fun _ i _ => 1 - (intOf i).toNat)
 case atStart => exact ⟨0,by omega,rfl,unhide HS0⟩
 case round =>
  obtain ⟨j,hj,rfl,SY⟩:=hrel
  clear HS0 c1 c3
  rcases (show j=0 ∨ j=1 by omega) with rfl | rfl
  ·have SY:SyAt w wr p lv g o cap n cs L:=SY
   have c0:wr.cell? ⟨p,0,none⟩=some lv:=blk_cell (i:=0) SY.blk
   have hcell:∀ j v,cs[j]? = some v→wr.cell? ((⟨g,o,none⟩:Addr).add j)=some v:=by
    obtain ⟨ad',cap',e,_,_,hsh⟩:=SY.un.shape
    obtain ⟨g',o',e2,hc⟩:=hsh (by omega)
    cases e
    cases e2
    intro j v hj
    have hjl:j < 65:=by rw [← hcs];exact (List.getElem?_eq_some_iff.1 hj).1
    rw [add_mk,hc j (by omega)]
    exact hj
   have hplr:=lt_of_block SY.blk
   have HSY:=hide SY
   have HC:=hide hcell
   clear SY hcell
   go_upto_region 4 with (first
    | (refine wpList_load_write rfl (.tmp 15) rfl ⟨g,o,none⟩ rfl cs hcs (unhide HC) ?_)
    | (refine wpList_store_row rfl 254 (.tmp 3) (.tmp 16) rfl wr.heap.size cs.toArray rfl rfl 254 _ (heap_alloc_new _ _) (by rw [size_write];simp [hcs]) (by simp [hcs]) (by rw [Array.all_eq_true_iff_forall_mem];intro v hv;exact h1c v (by simpa using hv)) ?_;go_simp))
   refine wp_world (fun x => x.heap[wr.heap.size]? = some (.cells cs.toArray 254 (0,0))∧SyAt w x p lv g o cap n cs L) ?_ ?_
   ·have hF:Far (fun _ => False) wr ((wr.alloc (.cells Tryz.zeroCells254 254)).setRow wr.heap.size cs.toArray) :=
     ⟨rfl,rfl,rfl,by simp,fun k hk _ => (setRow_other _ _ k _ (by omega)).trans (hao _ _ hk)⟩
    refine ⟨setRow_heap _ _ _ _ _ _ (heap_alloc_new _ _),hF.blk (unhide HSY).blk (fun h => h),(unhide HSY).un.far hF (fun _ _ h => h),ownsRow_keepB (unhide HSY).row (fun g hg => hF.rest g (World.ownsRow.lt (unhide HSY).row g hg).2 (fun h => h)),(unhide HSY).far.trans hF (fun _ _ h => h.elim)⟩
   rintro x ⟨hn0,SX⟩
   have cx:x.cell? ⟨p,0,none⟩=some lv:=blk_cell (i:=0) SX.blk
   have hplx:=lt_of_block SX.blk
   have hnl:=lt_of_block hn0
   have HN:=hide hn0
   have HSX:=hide SX
   have hA:=fun y hrow => hide (apply_any y k S L lv hS hk hL hrow)
   rw [← unhide HCS] at hA
   clear hn0 SX HSY HC c0
   refine wp_region_last (by kernel_rfl)
    [fun v _ => v = .agg cs.toArray,fun v _ => v = .pointer (some ⟨p,0,none⟩),fun v _ => v = .pointer (some ⟨p,0,none⟩),fun v _ => v = .pointer (some ⟨p,0,none⟩),fun v _ => v=lv,fun _ _ => True]
    [[(3,none)],[(0,none)],[(18,some 1)],[(19,some 2)],[(20,some 3)],[(17,some 0),(21,some 4)]] [some 17,some 18,some 19,some 20,some 21,some 22] [false,false,false,false,false,false,false,false,false,false,false,false,false,false,false,false,false,true,true,true,true,true,true,false,false,false,false,false,false,false,false,false]
    5 _ rfl rfl (by kernel_rfl) (by kernel_rfl) (by kernel_rfl) (by kernel_rfl) (by kernel_rfl) (by kernel_rfl) ?_ ?_ ?_
   ·repeat' (first | exact stable_eq _ | exact stable_true | exact trivial | apply And.intro)
   ·refine ⟨?_,?_,?_,?_,?_,trivial⟩
    all_goals
     intro a y hb hf
     have y0:=(hb.cell (p:=⟨p,0,none⟩) (by show p < _;omega)).trans cx
     have yn:=(hb.block _ hnl).trans (unhide HN)
     clear hb
     simp only [PlanFacts,List.getD_cons_zero,List.getD_cons_succ,Array.getD_eq_getD_getElem?] at hf
     try simp at hf
    ·rw [if_pos (by rfl)]
     refine oper_load_write (.tmp 3) rfl ⟨wr.heap.size,0,none⟩ (by simp [Act.eval,hf]) cs hcs ?_ ⟨_,rfl,Below.refl _ _,rfl⟩
     intro j v hj
     rw [add_mk,blk_cell yn,List.getElem?_toArray,Nat.zero_add]
     exact hj
    all_goals
     clear yn
     go_simp
     try exact ⟨_,rfl,Below.refl _ _,rfl⟩
     try exact Below.refl _ _
   ·intro f y hb hwd
    simp only [AllWords,List.take] at hwd
    have hf17:=hwd.1
    have hf21:=hwd.2.2.2.2.1
    simp only [mergeT,hf17,hf21]
    have SY:SyAt w y p lv g o cap n cs L:=by
     have SX:=unhide HSX
     exact ⟨(hb.block _ hplx).trans SX.blk,SX.un.keep (fun g hg => hb.block g (SX.un.lt g hg)),ownsRow_keepB SX.row (fun g hg => hb.block g (World.ownsRow.lt SX.row g hg).2),SX.far.trans (far_below (E:=fun _ => False) hb) (fun _ _ h => h.elim)⟩
    have HY:=hide SY
    clear hb hwd hf17 hf21 SY HSX HN cx
    go_simp
    refine (unhide (hA y (unhide HY).row)).mono ?_
    rintro r z ⟨rfl,hrz,hFz⟩
    have SY:=unhide HY
    have hne:∀ h,lv.ownBlock=some h→h ≠ p:=fun h hh e => (RowO.of_own SY.row).ne SY.blk (by decide) (by rw [hh,e])
    have SZ:SyAt w z p lv g o cap n cs (Mod.setSec L k S) :=
     ⟨hFz.blk SY.blk (fun e => hne _ e rfl),SY.un.far hFz (fun h hh e => (RowO.of_own SY.row).ty SY.un (by decide) e hh),hrz,SY.far.trans hFz (fun _ _ h => h)⟩
    have HZ:=hide SZ
    clear SY SZ hrz hFz HY hA hne
    go_wp2
    exact ⟨⟨1,by omega,by go_num,unhide HZ⟩,by simp [intOf]⟩
  ·have SY:SyAt w wr p lv g o cap n cs (Mod.setSec L k S):=SY
   have c1:wr.cell? ⟨p,1,none⟩=some (.slice (some ⟨g,o,none⟩) 1 cap):=blk_cell (i:=1) SY.blk
   have f1:wr.frozen? ⟨p,1,none⟩=false:=blk_free (i:=1) SY.blk
   have HSY:=hide SY
   clear SY
   go_wp2
   refine bodyPost_end (results_none rfl _ _ _) rfl ⟨rfl,?_⟩
   have SZ:=unhide HSY
   have hfs:=far_set wr p 1 (.slice (some ⟨g,o,none⟩) 0 cap)
   refine ⟨.slice (some ⟨g,o,none⟩) 0 cap,?_,rfl,?_,ownsRow_keepB SZ.row (fun h hh => hfs.rest h (World.ownsRow.lt SZ.row h hh).2 (fun e => (RowO.of_own SZ.row).ne SZ.blk (by decide) (by rw [hh,e]))),?_⟩
   ·have:=blk_set (j:=1) (v:=.slice (some ⟨g,o,none⟩) 0 cap) SZ.blk
    simpa using this
   ·have h0:=SZ.un.far hfs (fun h hh e => SZ.un.ne SZ.blk (by decide) (by rw [hh,e]))
    obtain ⟨_,h2⟩:=h0
    rcases h2 with ⟨h2,_⟩ | ⟨g',o',cap',cur,e1,hh,hn',hc',hz',ht'⟩
    ·cases h2
    ·cases e1
     exact ⟨by simp,.inr ⟨g,o,cap,cur,rfl,hh,Nat.zero_le _,hc2,hz',by simp⟩⟩
   ·exact (SZ.far.mono (fun _ _ h => .inr h)).trans hfs (fun _ _ h => .inl h)
end Go.Proofs.YtamafdcnbcoegabGreat
namespace Go.Proofs.YtamafdcnbcoegabGreat
open Go.RowKit
set_option maxRecDepth 100000 in
set_option maxHeartbeats 2000000 in
theorem storeWrite_gen (w:World) (s dp k:Nat) (S:List UInt8) (hS:S.length=64) (e:Int) (R R2:World→Prop) (E:Nat→Prop)
  (hs:∀ y,Below w.heap.size w y ∨ R y→y.cell? ⟨s,0,none⟩=some (ptrTo dp))
  (hW:∀ y,Below w.heap.size w y→Calls Tryz.prog 169 #[ptrTo dp,.int .i64 k,.agg (bv S).toArray] y fun r w' => r = .returned (.int .i64 e)∧R w' ∧ Far E y w')
  (hRb:∀ y z,R y→Below y.heap.size y z→R z)
  (hY:∀ y,R y→Calls Tryz.prog 170 #[ptrTo dp] y fun r w' => r = .returned (.tuple #[])∧R2 w') :
  Calls Tryz.prog 123 #[ptrTo s,.int .i64 k,.agg (bv S).toArray] w fun r w' => r = .returned (.int .i64 e)∧R2 w':=by
 unfold ptrTo at *
 have HS:=hide hs
 have HW:=hide hW
 have HY:=hide hY
 clear hs hW hY
 go_enter Tryz.func123,Tryz.ntmps123
 go_upto_region 1 with fail
 refine wp_world (fun x => x.heap[w.heap.size]? = some (.cells (bv S).toArray 214 (0,0))∧Below w.heap.size w x) ⟨heap_alloc_new w _,(Below.refl _ _).alloc (Nat.le_refl _) _⟩ ?_
 rintro x ⟨h0,hB⟩
 have hz:=lt_of_block h0
 have H0:=hide h0
 have HB:=hide hB
 clear h0 hB
 refine wp_region_foot (by kernel_rfl)
  [fun v _ => v = .pointer (some ⟨s,0,none⟩),fun v _ => v = .pointer (some ⟨s,0,none⟩),fun v _ => v = .pointer (some ⟨s,0,none⟩),fun v _ => v = .pointer (some ⟨dp,0,none⟩),fun v _ => v = .int .i64 k,fun v _ => v = .agg (bv S).toArray,fun v y => v = .int .i64 e∧R y,fun v _ => v = .int .i64 e]
  [[(0,none)],[(8,some 0)],[(9,some 1)],[(10,some 2)],[(1,none)],[(5,none)],[(11,some 3),(12,some 4),(13,some 5)],[(14,some 6)]] [some 8,some 9,some 10,some 11,some 12,some 13,some 14,some 7] [false,false,false,false,false,false,false,true,true,true,true,true,true,true,true,false,false,false,false,false,false]
  [(6,E)]
  (by kernel_rfl) (by kernel_rfl) (by kernel_rfl) (by kernel_rfl) (by kernel_rfl) ?_ ?_ ?_ ?_
 ·repeat' (first | exact stable_eq _ | exact (fun _ y z h hb => ⟨h.1,hRb y z h.2 hb⟩) | exact trivial | apply And.intro)
 ·repeat' (first | exact trivial | exact .inl rfl | exact .inr (.inr (stableF_eq _ _)) | apply And.intro)
 ·refine ⟨?_,?_,?_,?_,?_,?_,?_,?_,trivial⟩
  all_goals
   intro a z hb hf
   simp only [PlanFacts,List.getD_cons_zero,List.getD_cons_succ,Array.getD_eq_getD_getElem?] at hf
   try simp at hf
  ·go_simp
   exact ⟨_,rfl,Far.refl _ _,rfl⟩
  ·go_simp
   exact ⟨_,rfl,Far.refl _ _,rfl⟩
  ·go_simp
   exact ⟨_,rfl,Far.refl _ _,rfl⟩
  ·have hbz:Below w.heap.size w z:=(unhide HB).trans ((hb.below (B:=x.heap.size) (Nat.le_refl _) (by
    rintro j hj ⟨q,hq,g1,g2,g3⟩
    simp at hq
    subst hq
    exact absurd (show depB _ 6 3=false from g2) (by decide +kernel))).mono (unhide HB).size)
   have c0:=(unhide HS) z (.inl hbz)
   clear hbz
   go_simp
   exact ⟨_,rfl,Far.refl _ _,rfl⟩
  ·go_simp
   exact ⟨_,rfl,Far.refl _ _,rfl⟩
  ·have d1:=hb.blk (unhide H0) (by
    rintro ⟨q,hq,g1,g2,g3⟩
    simp at hq
    subst hq
    exact absurd (show depB _ 6 5=false from g2) (by decide +kernel))
   rw [if_pos (by rfl)]
   refine oper_load_sec (.tmp 5) rfl w.heap.size (by simp [Act.eval,hf]) 214 S hS d1 ?_
   exact ⟨_,rfl,Far.refl _ _,rfl⟩
  ·have hbz:Below w.heap.size w z:=(unhide HB).trans ((hb.below (B:=x.heap.size) (Nat.le_refl _) (by
    rintro j hj ⟨q,hq,g1,g2,g3⟩
    simp at hq
    subst hq
    exact g1 rfl)).mono (unhide HB).size)
   have HC:=hide ((unhide HW) z hbz)
   clear hbz
   go_simp
   refine (unhide HC).mono ?_
   rintro r w1 ⟨rfl,hR,hF⟩
   exact ⟨_,rfl,footOf_of (.head _) hF,rfl,hR⟩
  ·obtain ⟨hf,_⟩:=hf
   go_simp
   exact ⟨_,rfl,Far.refl _ _,rfl⟩
 ·intro f z hF hwd
  have h6:=hwd.2.2.2.2.2.2.1
  have h7:=hwd.2.2.2.2.2.2.2.1
  have HR:=hide h6.2
  have c0:=(unhide HS) z (.inr h6.2)
  have HC:=hide ((unhide HY) z h6.2)
  clear hwd hF h6
  simp only [mergeT,h7]
  generalize f 8=x8
  generalize f 9=x9
  generalize f 10=x10
  generalize f 11=x11
  generalize f 12=x12
  generalize f 13=x13
  generalize f 14=x14
  go_simp
  go_wp2_with (go_at_call 170;refine (unhide HC).mono ?_;rintro r u ⟨rfl,hR2⟩)
  go_ret
  exact ⟨rfl,hR2⟩
theorem dk_ne {w:World} {dp s:Nat} {d:Mod.Dk} {lv uv:Value} (D:DkAt w dp d lv uv) {c:Array Value} {t:TypeId} {fr:Nat × Nat} (hs:w.heap[s]? = some (.cells c t fr)) (h1:233 ≠ t) (h2:5 ≠ t) (h3:254 ≠ t):¬ DkU dp lv uv s:=by
 rintro (h | h | h)
 ·subst h
  have:=D.blk
  rw [hs] at this
  injection this with this
  injection this with _ this _
  exact h1 this.symm
 ·exact (RowO.of_own D.row).ne hs h2 h
 ·exact D.un.ne hs h3 h
set_option maxHeartbeats 1000000 in
theorem storeWrite_any (w:World) (s dp:Nat) (lv uv a b c:Value) (d:Mod.Dk) (k:Nat) (S:List UInt8) (hS:S.length=64) (hk:64 * k+64 ≤ d.bytes.length)
  (hs:w.heap[s]? = some (.cells #[ptrTo dp,a,b,c] 190 (0,0))) (D:DkAt w dp d lv uv) :
  Calls Tryz.prog 123 #[ptrTo s,.int .i64 k,.agg (bv S).toArray] w fun r w' => r = .returned (.int .i64 (d.put k S).1) ∧
   ∃ uv',DkAt w' dp (d.put k S).2 lv uv' ∧ Loc w uv uv' ∧ Far (DkU dp lv uv) w w':=by
 have hsd:=dk_ne D hs (by decide) (by decide) (by decide)
 have hlt:=D.lt
 have c0:∀ y,Far (DkU dp lv uv) w y→y.cell? ⟨s,0,none⟩=some (ptrTo dp):=fun y hF => blk_cell (i:=0) (hF.blk hs hsd)
 by_cases hd:d.dead=true
 ·rw [Mod.Dk.put,if_pos hd]
  have hb:=D.blk
  rw [hd] at hb
  refine (storeWrite_gen w s dp k S hS 3 (fun y => Below w.heap.size w y) (fun y => Below w.heap.size w y) (fun _ => False) ?_ ?_ ?_ ?_).mono ?_
  ·rintro y (h | h)
   ·exact c0 y (far_below h)
   ·exact c0 y (far_below h)
  ·intro y hy
   refine (diskWrite_dead y dp lv uv d.armed k S ((hy.block _ (lt_of_block hb)).trans hb)).mono ?_
   rintro r z ⟨rfl,hz⟩
   exact ⟨rfl,hy.trans (hz.mono hy.size),far_below hz⟩
  ·exact fun y z h hb => h.trans (hb.mono h.size)
  ·intro y hy
   refine (sync_dead y dp lv uv d.armed ((hy.block _ (lt_of_block hb)).trans hb)).mono ?_
   rintro r z ⟨rfl,rfl⟩
   exact ⟨rfl,hy⟩
  ·rintro r y ⟨rfl,hy⟩
   exact ⟨rfl,uv,D.far (far_below (E:=fun _ => False) hy) (fun _ _ h => h),.inr (.inl rfl),far_below hy⟩
 ·have hd:d.dead=false:=by cases h:d.dead with | true => exact absurd h hd | false => rfl
  have hb:=D.blk
  rw [hd] at hb
  by_cases ha:d.armed=1
  ·rw [Mod.Dk.put,if_neg (by simp [hd]),if_pos ha]
   rw [ha] at hb
   refine (storeWrite_gen w s dp k S hS 4 (fun y => y.heap[dp]? = some (.cells #[lv,uv,.int .i64 1,.bool true] 233 (0,0))∧Far (fun j => j=dp) w y) (fun y => y.heap[dp]? = some (.cells #[lv,uv,.int .i64 1,.bool true] 233 (0,0))∧Far (fun j => j=dp) w y) (fun j => j=dp) ?_ ?_ ?_ ?_).mono ?_
   ·rintro y (h | h)
    ·exact c0 y (far_below h)
    ·exact c0 y (h.2.mono (fun _ _ e => .inl e))
   ·intro y hy
    refine (diskWrite_fail y dp lv uv k S ((hy.block _ (lt_of_block hb)).trans hb)).mono ?_
    rintro r z ⟨rfl,hz,hF⟩
    exact ⟨rfl,⟨hz,(far_below (E:=fun j => j=dp) hy).trans hF (fun _ _ h => h)⟩,hF⟩
   ·exact fun y z h hb => ⟨(hb.block _ (lt_of_block h.1)).trans h.1,h.2.trans (far_below (E:=fun _ => False) hb) (fun _ _ h => h.elim)⟩
   ·intro y hy
    refine (sync_dead y dp lv uv 1 hy.1).mono ?_
    rintro r z ⟨rfl,rfl⟩
    exact ⟨rfl,hy⟩
   ·rintro r y ⟨rfl,hy,hF⟩
    refine ⟨rfl,uv,⟨by rw [ha];exact hy,ownsRow_keepB D.row (fun g hg => hF.rest g (World.ownsRow.lt D.row g hg).2 (fun e => (RowO.of_own D.row).ne hb (by decide) (by rw [hg,e]))),D.un.far hF (fun g hg e => D.un.ne hb (by decide) (by rw [hg,e])),D.len,D.arm⟩,.inr (.inl rfl),hF.mono (fun _ _ e => .inl e)⟩
  ·rw [Mod.Dk.put,if_neg (by simp [hd]),if_neg ha]
   have huv:=D.un.ne hb (by decide)
   have hlr:=(RowO.of_own D.row).ne hb (by decide)
   refine (storeWrite_gen w s dp k S hS 0 (fun y => PutW w dp lv uv (d.armed - 1:Nat) (.int .i64 k :: bv S) y∧Far (fun j => j=dp ∨ uv.ownBlock=some j) w y)
    (fun y => ∃ uv',DkAt y dp { bytes:=Mod.setSec d.bytes k S,armed:=d.armed - 1,dead:=false } lv uv' ∧ Loc w uv uv' ∧ Far (DkU dp lv uv) w y) (fun j => j=dp ∨ uv.ownBlock=some j) ?_ ?_ ?_ ?_).mono ?_
   ·rintro y (h | h)
    ·exact c0 y (far_below h)
    ·exact c0 y (h.2.mono (fun _ _ e => e.elim .inl (fun e => .inr (.inr e))))
   ·intro y hy
    refine (diskWrite_ok y dp lv uv d.armed k S hS ha D.arm ((hy.block _ (lt_of_block hb)).trans hb) (D.un.keep (fun g hg => hy.block g (D.un.lt g hg)))).mono ?_
    rintro r z ⟨rfl,⟨v,g1,g2,g3,g4⟩,hF⟩
    exact ⟨rfl,⟨⟨v,g1,g2,loc_less g3 hy.size,Nat.le_trans hy.size g4⟩,(far_below (E:=fun j => j=dp ∨ uv.ownBlock=some j) hy).trans hF (fun _ _ h => h)⟩,hF⟩
   ·exact fun y z h hb => ⟨stable_putW w dp lv uv _ _ undef y z h.1 hb,h.2.trans (far_below (E:=fun _ => False) hb) (fun _ _ h => h.elim)⟩
   ·rintro y ⟨⟨v,g1,g2,g3,g4⟩,hF⟩
    have hrow:=ownsRow_keepB D.row (w':=y) (fun g hg => hF.rest g (World.ownsRow.lt D.row g hg).2 (by
     rintro (e | e)
     ·exact hlr (by rw [hg,e])
     ·exact (RowO.of_own D.row).ty D.un (by decide) hg e))
    refine (sync_one y dp lv v _ k S d.bytes hS hk D.len.2 g1 g2 hrow).mono ?_
    rintro r z ⟨rfl,uv',k1,k2,k3,k4,k5⟩
    refine ⟨rfl,uv',⟨k1,k4,k3,by rw [Mod.length_setSec hS hk];exact D.len,by have:=D.arm;show d.armed - 1 ≤ _;omega⟩,?_,?_⟩
    ·rcases g3 with g3 | g3 | ⟨g,g3,g5⟩
     ·exact .inl (by rw [k2];exact g3)
     ·exact .inr (.inl (by rw [k2];exact g3))
     ·exact .inr (.inr ⟨g,by rw [k2];exact g3,g5⟩)
    ·refine (hF.mono (fun _ _ e => e.elim .inl (fun e => .inr (.inr e)))).trans k5 (fun j _ e => e.elim .inl (fun e => .inr (.inl e)))
   ·rintro r y ⟨rfl,h⟩
    exact ⟨rfl,h⟩
end Go.Proofs.YtamafdcnbcoegabGreat
namespace Go.Proofs.YtamafdcnbcoegabGreat
open Go.RowKit
structure StAt (w:World) (s dp:Nat) (st:Mod.Stv) (lv uv:Value):Prop where
 blk:w.heap[s]? = some (.cells #[ptrTo dp,.int .u32 st.opening,.int .u64 st.count,.int .i64 st.head] 190 (0,0))
 dk:DkAt w dp st.dk lv uv
 op:st.opening < 4294967296
 ct:st.count < 18446744073709551616
 hd:st.head ≤ 1
def StU (s dp:Nat) (lv uv:Value) (k:Nat):Prop:=k=s ∨ DkU dp lv uv k
theorem StAt.sep {w:World} {s dp:Nat} {st:Mod.Stv} {lv uv:Value} (h:StAt w s dp st lv uv):¬ DkU dp lv uv s:=dk_ne h.dk h.blk (by decide) (by decide) (by decide)
theorem StAt.far {E:Nat→Prop} {w x:World} {s dp:Nat} {st:Mod.Stv} {lv uv:Value} (h:StAt w s dp st lv uv) (hf:Far E w x) (hE:∀ k,StU s dp lv uv k→¬ E k):StAt x s dp st lv uv :=
 ⟨hf.blk h.blk (hE s (.inl rfl)),h.dk.far hf (fun k hk => hE k (.inr hk)),h.op,h.ct,h.hd⟩
theorem StAt.lt {w:World} {s dp:Nat} {st:Mod.Stv} {lv uv:Value} (h:StAt w s dp st lv uv):∀ k,StU s dp lv uv k→k < w.heap.size:=by
 rintro k (rfl | hk)
 ·exact lt_of_block h.blk
 ·exact h.dk.lt k hk
set_option maxRecDepth 100000 in
set_option maxHeartbeats 2000000 in
theorem writeNumbers_any (w:World) (s dp:Nat) (st:Mod.Stv) (lv uv:Value) (H:StAt w s dp st lv uv) (a b d:Nat) (ha:a < 4294967296) (hb:b < 4294967296) (hd:d < 4294967296) :
  Calls Tryz.prog 114 #[ptrTo s,.agg #[.int .i64 a,.int .i64 b,.int .i64 d]] w fun r w' => r = .returned (.int .i64 (st.putNumbers a b d).1) ∧
   ∃ uv',StAt w' s dp (st.putNumbers a b d).2 lv uv' ∧ Loc w uv uv' ∧ Far (StU s dp lv uv) w w':=by
 have hsl:=lt_of_block H.blk
 have hnext:st.next < 18446744073709551616:=Nat.mod_lt _ (by omega)
 have hlen:=H.dk.len
 have hk:64 * (1 - st.head)+64 ≤ st.dk.bytes.length:=by omega
 have hS3:=Mod.length_sealB st.opening st.next (inside:=Mod.headIn a b d) (by rw [Mod.length_headIn];omega)
 have hh:=H.hd
 have HH:=hide H
 unfold ptrTo at *
 go_enter Tryz.func114,Tryz.ntmps114
 have hb0:=fun ob => (heap_alloc_old w ob hsl).trans H.blk
 have c1:∀ ob,(w.alloc ob).cell? ⟨s,3,none⟩=some (.int .i64 st.head):=fun ob => blk_cell (i:=3) (hb0 ob)
 have c2:∀ ob,(w.alloc ob).cell? ⟨s,2,none⟩=some (.int .u64 st.count):=fun ob => blk_cell (i:=2) (hb0 ob)
 have d1:w.cell? ⟨s,3,none⟩=some (.int .i64 st.head):=blk_cell (i:=3) H.blk
 have d2:w.cell? ⟨s,2,none⟩=some (.int .u64 st.count):=blk_cell (i:=2) H.blk
 have f1:∀ ob,(w.alloc ob).frozen? ⟨s,3,none⟩=false:=fun ob => blk_free (i:=3) (hb0 ob)
 have f2:∀ ob,(w.alloc ob).frozen? ⟨s,2,none⟩=false:=fun ob => blk_free (i:=2) (hb0 ob)
 have g1:w.frozen? ⟨s,3,none⟩=false:=blk_free (i:=3) H.blk
 have g2:w.frozen? ⟨s,2,none⟩=false:=blk_free (i:=2) H.blk
 clear H hb0
 have hw:IntKind.i64.wrap (1 - (st.head:Int))=1 - (st.head:Int):=by rw [IntKind.wrap_i64];omega
 go_upto_region 3 with fail
 have hn:IntKind.u64.wrap ((st.count:Int)+1)=((st.next:Nat):Int):=by rw [IntKind.wrap_u64,Mod.Stv.next];omega
 have hv:1 - (st.head:Int)=((1 - st.head:Nat):Int):=by omega
 refine wp_world (fun x => x.heap[s]? = some (.cells #[.pointer (some ⟨dp,0,none⟩),.int .u32 st.opening,.int .u64 st.next,.int .i64 (1 - st.head:Nat)] 190 (0,0))∧x.heap[w.heap.size]? = some (.cells #[.int .i64 a,.int .i64 b,.int .i64 d] 100 (0,0))∧DkAt x dp st.dk lv uv∧Far (fun k => k=s) w x∧w.heap.size < x.heap.size) ?_ ?_
 ·rw [hn,hv]
  have hF:Far (fun k => k=s) w (((w.setCell ⟨s,3,none⟩ (.int .i64 (1 - st.head:Nat))).setCell ⟨s,2,none⟩ (.int .u64 st.next)).alloc (.cells #[.int .i64 a,.int .i64 b,.int .i64 d] 100)) :=
   ((far_set w s 3 _).trans (far_set _ s 2 _) (fun _ _ h => h)).trans (far_below ((Below.refl _ _).alloc (Nat.le_refl _) _)) (fun _ _ h => h)
  refine ⟨?_,?_,(unhide HH).dk.far hF (fun k hk e => (unhide HH).sep (by rw [← e];exact hk)),hF,by simp⟩
  ·rw [hao _ _ (by simp;exact hsl)]
   have h1:=blk_set (j:=3) (v:=.int .i64 (1 - st.head:Nat)) (unhide HH).blk
   have h2:=blk_set (j:=2) (v:=.int .u64 st.next) h1
   simpa [ptrTo] using h2
  ·have:=heap_alloc_new ((w.setCell ⟨s,3,none⟩ (.int .i64 (1 - st.head:Nat))).setCell ⟨s,2,none⟩ (.int .u64 st.next)) (.cells #[.int .i64 a,.int .i64 b,.int .i64 d] 100)
   simpa using this
 rintro x ⟨h0,h1,hD,hF,hz⟩
 have hslx:=lt_of_block h0
 have hsep:¬ DkU dp lv uv s:=dk_ne hD h0 (by decide) (by decide) (by decide)
 have hsepn:¬ DkU dp lv uv w.heap.size:=dk_ne hD h1 (by decide) (by decide) (by decide)
 have hDlt:=hD.lt
 obtain ⟨SB,hSB⟩:∃ SB,SB=Mod.sealB st.opening st.next (Mod.headIn a b d):=⟨_,rfl⟩
 rw [← hSB] at hS3
 have hW:=fun y (hb:y.heap[s]? = _) (hD:DkAt y dp st.dk lv uv) => hide (storeWrite_any y s dp lv uv (.int .u32 st.opening) (.int .u64 st.next) (.int .i64 (1 - st.head:Nat)) st.dk (1 - st.head) SB hS3 hk hb hD)
 have hSl:=fun y => hide (sealHead_any st.opening st.next a b d y (unhide HH).op hnext ha hb hd)
 rw [← hSB] at hSl
 obtain ⟨ee,hee⟩:∃ ee,ee=(st.dk.put (1 - st.head) SB).1:=⟨_,rfl⟩
 obtain ⟨dd,hdd⟩:∃ dd,dd=(st.dk.put (1 - st.head) SB).2:=⟨_,rfl⟩
 rw [← hee,← hdd] at hW
 have HEQ:=hide (And.intro hSB (And.intro hee hdd))
 have H0:=hide h0
 have H1:=hide h1
 have HD:=hide hD
 have HF:=hide hF
 clear hSB hee hdd h0 h1 hD hF c1 c2 d1 d2 f1 f2 g1 g2 hw hn hv
 unfold ptrTo at hW
 refine wp_region_foot (by kernel_rfl)
  [fun v _ => v = .pointer (some ⟨s,0,none⟩),fun v _ => v = .pointer (some ⟨s,0,none⟩),fun v _ => v = .pointer (some ⟨s,0,none⟩),fun v _ => v = .pointer (some ⟨s,3,none⟩),fun v _ => v = .int .i64 (1 - st.head:Nat),
   fun v _ => v = .pointer (some ⟨s,0,none⟩),fun v _ => v = .pointer (some ⟨s,0,none⟩),fun v _ => v = .pointer (some ⟨s,1,none⟩),fun v _ => v = .agg #[.int .u32 st.opening,.int .u64 st.next],fun v _ => v = .agg #[.int .i64 a,.int .i64 b,.int .i64 d],
   fun v _ => v = .agg #[.int .u32 st.opening,.int .u64 st.next,.int .i64 a,.int .i64 b,.int .i64 d],fun v _ => v = .agg (bv SB).toArray,fun v y => v = .int .i64 ee∧∃ uv',DkAt y dp dd lv uv' ∧ Loc x uv uv',fun v _ => v = .int .i64 ee]
  [[(0,none)],[(0,none)],[(23,some 1)],[(24,some 2)],[(25,some 3)],[(0,none)],[(27,some 5)],[(28,some 6)],[(29,some 7)],[(3,none)],[(30,some 8),(31,some 9)],[(32,some 10)],[(22,some 0),(26,some 4),(33,some 11)],[(34,some 12)]] [some 22,some 23,some 24,some 25,some 26,some 27,some 28,some 29,some 30,some 31,some 32,some 33,some 34,some 4] [false,false,false,false,true,false,false,false,false,false,false,false,false,false,false,false,false,false,false,false,false,false,true,true,true,true,true,true,true,true,true,true,true,true,true]
  [(12,DkU dp lv uv)]
  (by kernel_rfl) (by kernel_rfl) (by kernel_rfl) (by kernel_rfl) (by kernel_rfl) ?_ ?_ ?_ ?_
 ·repeat' (first | exact stable_eq _ | exact (fun _ y z h hb => ⟨h.1,h.2.imp fun uv' h => ⟨h.1.far (far_below (E:=fun _ => False) hb) (fun _ _ h => h),h.2⟩⟩) | exact trivial | apply And.intro)
 ·repeat' (first | exact trivial | exact .inl rfl | exact .inr (.inr (stableF_eq _ _)) | apply And.intro)
 ·refine ⟨?_,?_,?_,?_,?_,?_,?_,?_,?_,?_,?_,?_,?_,?_,trivial⟩
  all_goals
   intro a' z hb hf
   have z0:=hb.blk (unhide H0) (footBut_no (by intro q hq;simp at hq;subst hq;exact hsep))
   have z1:=hb.blk (unhide H1) (footBut_no (by intro q hq;simp at hq;subst hq;exact hsepn))
   have e1:z.cell? ⟨s,1,none⟩=some (.int .u32 st.opening):=blk_cell (i:=1) z0
   have e2:z.cell? ⟨s,2,none⟩=some (.int .u64 st.next):=blk_cell (i:=2) z0
   have e3:z.cell? ⟨s,3,none⟩=some (.int .i64 (1 - st.head:Nat)):=blk_cell (i:=3) z0
   have n0:z.cell? ⟨w.heap.size,0,none⟩=some (.int .i64 a):=blk_cell (i:=0) z1
   have n1:z.cell? ⟨w.heap.size,1,none⟩=some (.int .i64 b):=blk_cell (i:=1) z1
   have n2:z.cell? ⟨w.heap.size,2,none⟩=some (.int .i64 d):=blk_cell (i:=2) z1
   have Z0:=hide z0
   clear z0 z1
   simp only [PlanFacts,List.getD_cons_zero,List.getD_cons_succ,Array.getD_eq_getD_getElem?] at hf
   try simp at hf
  iterate 11
   ·clear hb
    go_simp
    exact ⟨_,rfl,Far.refl _ _,rfl⟩
  ·clear hb
   go_simp
   refine (unhide (hSl z)).mono ?_
   rintro r w1 ⟨rfl,hb1⟩
   exact ⟨_,rfl,far_below hb1,rfl⟩
  ·have hDz:=(unhide HD).far hb (by
    rintro k hk ⟨q,hq,g1,g2,g3⟩
    simp at hq
    subst hq
    exact g1 rfl)
   have HC:=hide (unhide (hW z (unhide Z0) hDz))
   have hzz:=hb.size
   clear hb hDz
   go_simp
   refine (unhide HC).mono ?_
   rintro r w1 ⟨rfl,uv',k1,k2,k3⟩
   exact ⟨_,rfl,footOf_of (.head _) k3,rfl,uv',k1,loc_less k2 hzz⟩
  ·clear hb
   obtain ⟨hf,_⟩:=hf
   go_simp
   exact ⟨_,rfl,Far.refl _ _,rfl⟩
 ·intro f z hFz hwd
  obtain ⟨_,uv',k1,k2⟩:=hwd.2.2.2.2.2.2.2.2.2.2.2.2.1
  have h13:=hwd.2.2.2.2.2.2.2.2.2.2.2.2.2.1
  have hFz:Far (DkU dp lv uv) x z:=hFz.mono (fun b _ h => by
   obtain ⟨q,hq,h⟩:=h
   simp at hq
   subst hq
   exact h)
  have z0:=hFz.blk (unhide H0) hsep
  have HFIN:=hide (And.intro k1 (And.intro k2 (And.intro hFz z0)))
  clear hwd k1 k2 hFz z0
  simp only [mergeT,h13]
  generalize f 22=x22
  generalize f 23=x23
  generalize f 24=x24
  generalize f 25=x25
  generalize f 26=x26
  generalize f 27=x27
  generalize f 28=x28
  generalize f 29=x29
  generalize f 30=x30
  generalize f 31=x31
  generalize f 32=x32
  generalize f 33=x33
  generalize f 34=x34
  go_simp
  go_wp2
  go_ret
  obtain ⟨k1,k2,k3,k4⟩:=unhide HFIN
  obtain ⟨q1,q2,q3⟩:=unhide HEQ
  have hp:st.putNumbers a b d=(ee,{ st with head:=1 - st.head,count:=st.next,dk:=dd }):=by
   unfold Mod.Stv.putNumbers
   rw [← q1,← q2,← q3]
  rw [hp]
  exact ⟨rfl,uv',⟨k4,k1,(unhide HH).op,hnext,by show 1 - st.head ≤ 1;omega⟩,loc_less k2 (by omega),((unhide HF).mono (fun _ _ e => .inl e)).trans k3 (fun _ _ e => .inr e)⟩
end Go.Proofs.YtamafdcnbcoegabGreat
namespace Go.Proofs.YtamafdcnbcoegabGreat
open Go.RowKit
set_option maxRecDepth 100000 in
set_option maxHeartbeats 2000000 in
theorem writeRecord_any (w:World) (s dp:Nat) (st:Mod.Stv) (lv uv:Value) (H:StAt w s dp st lv uv) (place sm q:Nat) (body:ByteArray) (hpl:64 * (2+place)+64 ≤ st.dk.bytes.length) (hsm:sm < 256) (hq:q < 4294967296) (hbo:body.size ≤ 20) :
  Calls Tryz.prog 80 #[ptrTo s,.int .i64 place,.agg #[.int .i64 sm,.int .i64 q,.string body]] w fun r w' => r = .returned (.int .i64 (st.putRecord place sm q body.data.toList).1) ∧
   ∃ uv',StAt w' s dp (st.putRecord place sm q body.data.toList).2 lv uv' ∧ Loc w uv uv' ∧ Far (StU s dp lv uv) w w':=by
 have hsl:=lt_of_block H.blk
 have hnext:st.next < 18446744073709551616:=Nat.mod_lt _ (by omega)
 have hlen:=H.dk.len
 have hS3:=Mod.length_sealB st.opening st.next (inside:=Mod.recIn sm q body.data.toList) (by rw [Mod.length_recIn];simp;omega)
 have hh:=H.hd
 have HH:=hide H
 unfold ptrTo at *
 go_enter Tryz.func80,Tryz.ntmps80
 have hb0:=fun ob => (heap_alloc_old w ob hsl).trans H.blk
 have c2:∀ ob,(w.alloc ob).cell? ⟨s,2,none⟩=some (.int .u64 st.count):=fun ob => blk_cell (i:=2) (hb0 ob)
 have d2:w.cell? ⟨s,2,none⟩=some (.int .u64 st.count):=blk_cell (i:=2) H.blk
 have f2:∀ ob,(w.alloc ob).frozen? ⟨s,2,none⟩=false:=fun ob => blk_free (i:=2) (hb0 ob)
 have g2:w.frozen? ⟨s,2,none⟩=false:=blk_free (i:=2) H.blk
 clear H hb0
 have hw:IntKind.i64.wrap (2+(place:Int))=2+(place:Int):=by rw [IntKind.wrap_i64];omega
 go_upto_region 2 with fail
 have hn:IntKind.u64.wrap ((st.count:Int)+1)=((st.next:Nat):Int):=by rw [IntKind.wrap_u64,Mod.Stv.next];omega
 refine wp_world (fun x => x.heap[s]? = some (.cells #[.pointer (some ⟨dp,0,none⟩),.int .u32 st.opening,.int .u64 st.next,.int .i64 st.head] 190 (0,0))∧x.heap[w.heap.size]? = some (.cells #[.int .i64 sm,.int .i64 q,.string body] 150 (0,0))∧DkAt x dp st.dk lv uv∧Far (fun k => k=s) w x∧w.heap.size < x.heap.size) ?_ ?_
 ·rw [hn]
  have hF:Far (fun k => k=s) w ((w.setCell ⟨s,2,none⟩ (.int .u64 st.next)).alloc (.cells #[.int .i64 sm,.int .i64 q,.string body] 150)) :=
   (far_set w s 2 _).trans (far_below ((Below.refl _ _).alloc (Nat.le_refl _) _)) (fun _ _ h => h)
  refine ⟨?_,?_,(unhide HH).dk.far hF (fun k hk e => (unhide HH).sep (by rw [← e];exact hk)),hF,by simp⟩
  ·rw [hao _ _ (by simp;exact hsl)]
   have h2:=blk_set (j:=2) (v:=.int .u64 st.next) (unhide HH).blk
   simpa [ptrTo] using h2
  ·have:=heap_alloc_new (w.setCell ⟨s,2,none⟩ (.int .u64 st.next)) (.cells #[.int .i64 sm,.int .i64 q,.string body] 150)
   simpa using this
 rintro x ⟨h0,h1,hD,hF,hz⟩
 have hslx:=lt_of_block h0
 have hsep:¬ DkU dp lv uv s:=dk_ne hD h0 (by decide) (by decide) (by decide)
 have hsepn:¬ DkU dp lv uv w.heap.size:=dk_ne hD h1 (by decide) (by decide) (by decide)
 obtain ⟨SB,hSB⟩:∃ SB,SB=Mod.sealB st.opening st.next (Mod.recIn sm q body.data.toList):=⟨_,rfl⟩
 rw [← hSB] at hS3
 have hW:=fun y (hb:y.heap[s]? = _) (hD:DkAt y dp st.dk lv uv) => hide (storeWrite_any y s dp lv uv (.int .u32 st.opening) (.int .u64 st.next) (.int .i64 st.head) st.dk (2+place) SB hS3 hpl hb hD)
 have hSl:=fun y => hide (sealRecord_any st.opening st.next sm q body y (unhide HH).op hnext hsm hq hbo)
 rw [← hSB] at hSl
 obtain ⟨ee,hee⟩:∃ ee,ee=(st.dk.put (2+place) SB).1:=⟨_,rfl⟩
 obtain ⟨dd,hdd⟩:∃ dd,dd=(st.dk.put (2+place) SB).2:=⟨_,rfl⟩
 rw [← hee,← hdd] at hW
 have HEQ:=hide (And.intro hSB (And.intro hee hdd))
 have H0:=hide h0
 have H1:=hide h1
 have HD:=hide hD
 have HF:=hide hF
 obtain ⟨pp,hpp⟩:∃ pp,pp=2+place:=⟨_,rfl⟩
 rw [← hpp] at hW
 have hpc:2+(place:Int)=(pp:Int):=by omega
 rw [hpc] at hw
 clear hpp
 clear hSB hee hdd h0 h1 hD hF c2 d2 f2 g2 hn
 unfold ptrTo at hW
 refine wp_region_foot (by kernel_rfl)
  [fun v _ => v = .pointer (some ⟨s,0,none⟩),fun v _ => v = .int .i64 place,fun v _ => v = .int .i64 pp,fun v _ => v = .pointer (some ⟨s,0,none⟩),fun v _ => v = .pointer (some ⟨s,0,none⟩),fun v _ => v = .pointer (some ⟨s,1,none⟩),fun v _ => v = .agg #[.int .u32 st.opening,.int .u64 st.next],fun v _ => v = .agg #[.int .i64 sm,.int .i64 q,.string body],
   fun v _ => v = .agg (bv SB).toArray,fun v y => v = .int .i64 ee∧∃ uv',DkAt y dp dd lv uv' ∧ Loc x uv uv',fun v _ => v = .int .i64 ee]
  [[(0,none)],[(1,none)],[(17,some 1)],[(0,none)],[(19,some 3)],[(20,some 4)],[(21,some 5)],[(5,none)],[(22,some 6),(23,some 7)],[(16,some 0),(18,some 2),(24,some 8)],[(25,some 9)]] [some 16,some 17,some 18,some 19,some 20,some 21,some 22,some 23,some 24,some 25,some 6] [false,false,false,false,false,false,true,false,false,false,false,false,false,false,false,false,true,true,true,true,true,true,true,true,true,true]
  [(9,DkU dp lv uv)]
  (by kernel_rfl) (by kernel_rfl) (by kernel_rfl) (by kernel_rfl) (by kernel_rfl) ?_ ?_ ?_ ?_
 ·repeat' (first | exact stable_eq _ | exact (fun _ y z h hb => ⟨h.1,h.2.imp fun uv' h => ⟨h.1.far (far_below (E:=fun _ => False) hb) (fun _ _ h => h),h.2⟩⟩) | exact trivial | apply And.intro)
 ·repeat' (first | exact trivial | exact .inl rfl | exact .inr (.inr (stableF_eq _ _)) | apply And.intro)
 ·refine ⟨?_,?_,?_,?_,?_,?_,?_,?_,?_,?_,?_,trivial⟩
  all_goals
   intro a' z hb hf
   have z0:=hb.blk (unhide H0) (footBut_no (by intro q hq;simp at hq;subst hq;exact hsep))
   have z1:=hb.blk (unhide H1) (footBut_no (by intro q hq;simp at hq;subst hq;exact hsepn))
   have e1:z.cell? ⟨s,1,none⟩=some (.int .u32 st.opening):=blk_cell (i:=1) z0
   have e2:z.cell? ⟨s,2,none⟩=some (.int .u64 st.next):=blk_cell (i:=2) z0
   have n0:z.cell? ⟨w.heap.size,0,none⟩=some (.int .i64 sm):=blk_cell (i:=0) z1
   have n1:z.cell? ⟨w.heap.size,1,none⟩=some (.int .i64 q):=blk_cell (i:=1) z1
   have n2:z.cell? ⟨w.heap.size,2,none⟩=some (.string body):=blk_cell (i:=2) z1
   have Z0:=hide z0
   clear z0 z1
   simp only [PlanFacts,List.getD_cons_zero,List.getD_cons_succ,Array.getD_eq_getD_getElem?] at hf
   try simp at hf
  iterate 2
   ·clear hb
    go_simp
    exact ⟨_,rfl,Far.refl _ _,rfl⟩
  ·clear hb
   go_simp
   exact ⟨_,rfl,Far.refl _ _,rfl⟩
  iterate 5
   ·clear hb
    go_simp
    exact ⟨_,rfl,Far.refl _ _,rfl⟩
  ·clear hb
   go_simp
   refine (unhide (hSl z)).mono ?_
   rintro r w1 ⟨rfl,hb1⟩
   exact ⟨_,rfl,far_below hb1,rfl⟩
  ·have hDz:=(unhide HD).far hb (by
    rintro k hk ⟨q,hq,g1,g2,g3⟩
    simp at hq
    subst hq
    exact g1 rfl)
   have HC:=hide (unhide (hW z (unhide Z0) hDz))
   have hzz:=hb.size
   clear hb hDz
   go_simp
   refine (unhide HC).mono ?_
   rintro r w1 ⟨rfl,uv',k1,k2,k3⟩
   exact ⟨_,rfl,footOf_of (.head _) k3,rfl,uv',k1,loc_less k2 hzz⟩
  ·clear hb
   obtain ⟨hf,_⟩:=hf
   go_simp
   exact ⟨_,rfl,Far.refl _ _,rfl⟩
 ·intro f z hFz hwd
  obtain ⟨_,uv',k1,k2⟩:=hwd.2.2.2.2.2.2.2.2.2.1
  have h13:=hwd.2.2.2.2.2.2.2.2.2.2.1
  have hFz:Far (DkU dp lv uv) x z:=hFz.mono (fun b _ h => by
   obtain ⟨q,hq,h⟩:=h
   simp at hq
   subst hq
   exact h)
  have z0:=hFz.blk (unhide H0) hsep
  have HFIN:=hide (And.intro k1 (And.intro k2 (And.intro hFz z0)))
  clear hwd k1 k2 hFz z0
  simp only [mergeT,h13]
  generalize f 16=x16
  generalize f 17=x17
  generalize f 18=x18
  generalize f 19=x19
  generalize f 20=x20
  generalize f 21=x21
  generalize f 22=x22
  generalize f 23=x23
  generalize f 24=x24
  generalize f 25=x25
  go_simp
  go_wp2
  go_ret
  obtain ⟨k1,k2,k3,k4⟩:=unhide HFIN
  obtain ⟨q1,q2,q3⟩:=unhide HEQ
  have hp:st.putRecord place sm q body.data.toList=(ee,{ st with count:=st.next,dk:=dd }):=by
   unfold Mod.Stv.putRecord
   rw [← q1,← q2,← q3]
  rw [hp]
  exact ⟨rfl,uv',⟨k4,k1,(unhide HH).op,hnext,hh⟩,loc_less k2 (by omega),((unhide HF).mono (fun _ _ e => .inl e)).trans k3 (fun _ _ e => .inr e)⟩
theorem storeIsDead_any {w:World} {s dp:Nat} {st:Mod.Stv} {lv uv:Value} (H:StAt w s dp st lv uv) :
  Calls Tryz.prog 66 #[ptrTo s] w fun r w' => r = .returned (.bool st.dk.dead)∧w' = w:=by
 have c0:w.cell? ⟨s,0,none⟩=some (ptrTo dp):=blk_cell (i:=0) H.blk
 have c3:w.cell? ⟨dp,3,none⟩=some (.bool st.dk.dead):=blk_cell (i:=3) H.dk.blk
 unfold ptrTo at *
 clear H
 have HD:∀ y:World,y=w→Calls Tryz.prog 102 #[.pointer (some ⟨dp,0,none⟩)] y fun r w' => r = .returned (.bool st.dk.dead)∧w' = w:=by
  rintro y rfl
  clear c0
  go_enter Tryz.func102,Tryz.ntmps102
  go_wp2
  go_ret
  exact ⟨rfl,rfl⟩
 have HD:=hide HD
 clear c3
 go_enter Tryz.func66,Tryz.ntmps66
 go_wp2_with (go_at_call 102;refine ((unhide HD) _ rfl).mono ?_;rintro r y ⟨rfl,rfl⟩)
 go_ret
 exact ⟨rfl,rfl⟩
theorem storeOpening_any {w:World} {s dp:Nat} {st:Mod.Stv} {lv uv:Value} (H:StAt w s dp st lv uv) :
  Calls Tryz.prog 84 #[ptrTo s] w fun r w' => r = .returned (.int .i64 st.opening)∧w' = w:=by
 have c0:w.cell? ⟨s,1,none⟩=some (.int .u32 st.opening):=blk_cell (i:=1) H.blk
 have hw:IntKind.i64.wrap (st.opening:Int)=(st.opening:Int):=by have:=H.op;rw [IntKind.wrap_i64];omega
 unfold ptrTo at *
 clear H
 go_enter Tryz.func84,Tryz.ntmps84
 go_wp2
 go_ret
 exact ⟨by simp,rfl⟩
end Go.Proofs.YtamafdcnbcoegabGreat
namespace Go.Proofs.YtamafdcnbcoegabGreat
open Go.RowKit
theorem isAgg_sec (w:World):(isAgg 214).run Tryz.prog w = .ok true w:=by
 simp [isAgg,run_underlying Tryz.underlying214]
theorem wpList_load_sec_at {ops:Array Oper} {rest:List Oper} {o:Oper} {a:Act} {w:World} {Q:Exit→Act→World→Prop} (hgd:o.guard=none) (x:Operand) (ho:o.op = .load 214 x)
  (ad:Addr) (hx:a.eval x = .pointer (some ad)) (S:List UInt8) (hS:S.length=64) (hc:∀ j v,(bv S)[j]? = some v→w.cell? (ad.add j)=some v)
  (h:wpList Tryz.prog ops Q rest (a.put o.dst (.agg (bv S).toArray)) w):wpList Tryz.prog ops Q (o :: rest) a w:=by
 refine wpList_plain hgd fun K hK => ?_
 unfold Oper.wp execOp
 simp only [ho,hx,Instr.loadAt,Instr.sureAddr,Sem.run_bind,Sem.run_pure,Result.andThen_ok,run_loadVar_at w ad 214 (bv S) hc (isAgg_sec w) (by rw [size64,bv_length,hS])]
 exact hK _ _ h
set_option maxRecDepth 100000 in
set_option maxHeartbeats 1000000 in
theorem sectorAt_any (w:World) (v:Value) (L:List UInt8) (k:Nat) (hat:BytesAt w v L) (hk:64 * k+64 ≤ L.length) (hL:L.length ≤ 10000) :
  Calls Tryz.prog 160 #[v,.int .i64 k] w fun r w' => r = .returned (.agg (bv ((L.drop (k * 64)).take 64)).toArray)∧Below w.heap.size w w':=by
 obtain ⟨ad,cap,rfl,h1,h2,h3⟩:=hat
 obtain ⟨b,off,rfl,hc⟩:=h3 (by omega)
 obtain ⟨n,hn⟩:∃ n,n=L.length:=⟨_,rfl⟩
 rw [← hn] at hk hL h1 h2 hc ⊢
 have hS3:((L.drop (k * 64)).take 64).length=64:=by rw [List.length_take,List.length_drop,← hn];omega
 have hcell:∀ j v,(bv ((L.drop (k * 64)).take 64))[j]? = some v→w.cell? ⟨b,off+k * 64+j,none⟩=some v:=by
  intro j v hj
  have hjl:j < 64:=by
   have:=(List.getElem?_eq_some_iff.1 hj).1
   rw [bv_length,hS3] at this;exact this
  rw [bv_get (by rw [hS3];exact hjl)] at hj
  cases hj
  have:=hc (k * 64+j) (by omega)
  rw [← Nat.add_assoc] at this
  rw [this]
  simp [List.getD_eq_getElem?_getD,hjl,List.getElem?_drop]
 obtain ⟨S,hSd⟩:∃ S,S=(L.drop (k * 64)).take 64:=⟨_,rfl⟩
 rw [← hSd] at hS3 hcell ⊢
 have HC:=hide hcell
 clear hcell hc hSd hn
 have i0:(0:Int) ≤ (k:Int) * 64:=by omega
 have i1:(k:Int) * 64 ≤ (k:Int) * 64+64:=by omega
 have i2:(k:Int) * 64+64 ≤ (n:Int):=by omega
 have i3:(k:Int) * 64+64 ≤ (cap:Int):=by omega
 have it:((k:Int) * 64).toNat=k * 64:=by omega
 have it2:((k:Int) * 64+64).toNat=k * 64+64:=by omega
 have hw:IntKind.i64.wrap ((k:Int) * 64)=(k:Int) * 64:=by rw [IntKind.wrap_i64];omega
 have hw1:IntKind.i64.wrap ((k:Int)+1)=(k:Int)+1:=by rw [IntKind.wrap_i64];omega
 have hw2:IntKind.i64.wrap (((k:Int)+1) * 64)=(k:Int) * 64+64:=by rw [IntKind.wrap_i64];omega
 have hne:¬ cap=k * 64:=by omega
 have hap:∀ y:World,(Instr.arrayAt 214 (.slice (some ⟨b,off+k * 64,none⟩) 64 (cap - k * 64))).run Tryz.prog y = .ok (.pointer (some ⟨b,off+k * 64,none⟩)) y:=fun y => by
  simp [Instr.arrayAt,run_underlying Tryz.underlying214]
 go_enter Tryz.func160,Tryz.ntmps160
 go_upto_region 1 with fail
 refine wp_world (fun x => x.heap[w.heap.size]? = some (.cells (bv zeros).toArray 214 (0,0))∧(∀ j v,(bv S)[j]? = some v→x.cell? ⟨b,off+k * 64+j,none⟩=some v)∧Below w.heap.size w x) ?_ ?_
 ·refine ⟨cells_eq (heap_alloc_new _ _) (by kernel_rfl),fun j v hj => ?_,(Below.refl _ _).alloc (Nat.le_refl _) _⟩
  have h:=(unhide HC) j v hj
  exact (World.cell?_alloc_lt w _ ⟨b,off+k * 64+j,none⟩ (World.block_lt_of_cell? _ _ h)).trans h
 rintro x ⟨h0,hcx,hB⟩
 have H0:=hide h0
 have HCX:=hide hcx
 have HB:=hide hB
 have hz:=lt_of_block h0
 clear h0 hcx hB HC
 go_wp2_with (first
  | (refine wpList_load_sec_at rfl (.tmp 12) rfl ⟨b,off+k * 64,none⟩ rfl S hS3 (by intro j v hj;rw [add_mk];exact (unhide HCX) j v hj) ?_)
  | (refine wpList_store_sec rfl (.tmp 4) (.tmp 13) rfl w.heap.size rfl S hS3 rfl 214 _ (by simp [bv_length,length_zeros]) (unhide H0) ?_;intro z4 hz4 hF4;go_simp))
 exact bodyPost_ret (results_sec Tryz.results160 _ _ w.heap.size _ _ hS3 rfl hz4) rfl ⟨rfl,(unhide HB).trans (hF4.below (unhide HB).size (fun k hk e => by omega))⟩
theorem drop_zeros (n k:Nat) (h:k * 64+64 ≤ n):((List.replicate n (0:UInt8)).drop (k * 64)).take 64=zeros:=by
 rw [List.drop_replicate,List.take_replicate,zeros]
 congr 1
 omega
theorem sectorAt_zero (w:World) (v:Value) (n k:Nat) (hat:BytesAt w v (List.replicate n 0)) (hk:k * 64+64 ≤ n) (hn:n ≤ 10000) :
  Calls Tryz.prog 160 #[v,.int .i64 k] w fun r w' => r = .returned (.agg (bv zeros).toArray)∧Below w.heap.size w w':=by
 have h:=sectorAt_any w v (List.replicate n 0) k hat (by simp;omega) (by simpa using hn)
 rw [drop_zeros n k hk] at h
 exact h
theorem built_zero:Tryz.prog.built 214 [] = some (bv zeros).toArray:=by kernel_rfl
theorem wpList_build_zero {ops:Array Oper} {rest:List Oper} {o:Oper} {a:Act} {w:World} {Q:Exit→Act→World→Prop} (hgd:o.guard=none) (ho:o.op = .build 214 #[])
  (h:wpList Tryz.prog ops Q rest (a.put o.dst (.agg (bv zeros).toArray)) w):wpList Tryz.prog ops Q (o :: rest) a w:=by
 refine wpList_build hgd 214 #[] ho ?_ ?_
 ·simp [built_zero]
 ·simpa [built_zero] using h
set_option maxRecDepth 100000 in
set_option maxHeartbeats 1000000 in
theorem readHead_zero (w:World):Calls Tryz.prog 159 #[.agg (bv zeros).toArray] w fun r w' =>
  r = .returned (.tuple #[.agg #[.int .u32 0,.int .u64 0,.int .i64 0,.int .i64 0,.int .i64 0],.bool true])∧Below w.heap.size w w':=by
 have heq:=fun y => eq_sec (S:=zeros) (T:=zeros) length_zeros length_zeros y
 rw [decide_eq_true rfl] at heq
 go_enter Tryz.func159,Tryz.ntmps159
 go_upto_region 1 with fail
 refine wp_world (fun x => x.heap[w.heap.size]? = some (.cells (bv zeros).toArray 214 (0,0))∧x.heap[w.heap.size+1]? = some (.cells #[.int .u32 0,.int .u64 0,.int .i64 0,.int .i64 0,.int .i64 0] 199 (0,0))∧Below w.heap.size w x) (alloc2 _ _ _) ?_
 rintro x ⟨h0,h1,hB⟩
 have q0:x.cell? ⟨w.heap.size+1,0,none⟩=some (.int .u32 0):=blk_cell (i:=0) h1
 have q1:x.cell? ⟨w.heap.size+1,1,none⟩=some (.int .u64 0):=blk_cell (i:=1) h1
 have q2:x.cell? ⟨w.heap.size+1,2,none⟩=some (.int .i64 0):=blk_cell (i:=2) h1
 have q3:x.cell? ⟨w.heap.size+1,3,none⟩=some (.int .i64 0):=blk_cell (i:=3) h1
 have q4:x.cell? ⟨w.heap.size+1,4,none⟩=some (.int .i64 0):=blk_cell (i:=4) h1
 have p0:x.frozen? ⟨w.heap.size+1,0,none⟩=false:=blk_free (i:=0) h1
 have p1:x.frozen? ⟨w.heap.size+1,1,none⟩=false:=blk_free (i:=1) h1
 have p2:x.frozen? ⟨w.heap.size+1,2,none⟩=false:=blk_free (i:=2) h1
 have p3:x.frozen? ⟨w.heap.size+1,3,none⟩=false:=blk_free (i:=3) h1
 have p4:x.frozen? ⟨w.heap.size+1,4,none⟩=false:=blk_free (i:=4) h1
 have H0:=hide h0
 have HB:=hide hB
 clear h0 h1 hB
 go_wp2_with (first
  | (refine wpList_load_sec rfl (.tmp 1) rfl w.heap.size rfl 214 zeros length_zeros (unhide H0) ?_)
  | (refine wpList_build_zero rfl rfl ?_;go_simp))
 refine bodyPost_ret (v:=.tuple #[.agg #[.int .u32 0,.int .u64 0,.int .i64 0,.int .i64 0,.int .i64 0],.bool true]) (by simp [results,Tryz.results159,go_sem,q0,q1,q2,q3,q4]) rfl ⟨rfl,?_⟩
 have hb1:=unhide HB
 exact ((((hb1.setCell (p:=⟨w.heap.size+1,0,none⟩) (by simp) _).setCell (p:=⟨w.heap.size+1,1,none⟩) (by simp) _).setCell (p:=⟨w.heap.size+1,2,none⟩) (by simp) _).setCell (p:=⟨w.heap.size+1,3,none⟩) (by simp) _).setCell (p:=⟨w.heap.size+1,4,none⟩) (by simp) _
set_option maxRecDepth 100000 in
set_option maxHeartbeats 1000000 in
theorem readRecord_zero (w:World) (last:Nat):Calls Tryz.prog 162 #[.agg (bv zeros).toArray,.int .u32 last] w fun r w' =>
  r = .returned (.tuple #[.agg #[.int .i64 0,.int .i64 0,.string ⟨#[]⟩],.bool true])∧Below w.heap.size w w':=by
 have heq:=fun y => eq_sec (S:=zeros) (T:=zeros) length_zeros length_zeros y
 rw [decide_eq_true rfl] at heq
 go_enter Tryz.func162,Tryz.ntmps162
 go_upto_region 1 with fail
 refine wp_world (fun x => x.heap[w.heap.size]? = some (.cells (bv zeros).toArray 214 (0,0))∧x.heap[w.heap.size+1]? = some (.cells #[.int .i64 0,.int .i64 0,.string ⟨#[]⟩] 150 (0,0))∧Below w.heap.size w x) (alloc2 _ _ _) ?_
 rintro x ⟨h0,h1,hB⟩
 have q0:x.cell? ⟨w.heap.size+1,0,none⟩=some (.int .i64 0):=blk_cell (i:=0) h1
 have q1:x.cell? ⟨w.heap.size+1,1,none⟩=some (.int .i64 0):=blk_cell (i:=1) h1
 have q2:x.cell? ⟨w.heap.size+1,2,none⟩=some (.string ⟨#[]⟩):=blk_cell (i:=2) h1
 have p0:x.frozen? ⟨w.heap.size+1,0,none⟩=false:=blk_free (i:=0) h1
 have p1:x.frozen? ⟨w.heap.size+1,1,none⟩=false:=blk_free (i:=1) h1
 have p2:x.frozen? ⟨w.heap.size+1,2,none⟩=false:=blk_free (i:=2) h1
 have H0:=hide h0
 have HB:=hide hB
 clear h0 h1 hB
 go_wp2_with (first
  | (refine wpList_load_sec rfl (.tmp 2) rfl w.heap.size rfl 214 zeros length_zeros (unhide H0) ?_)
  | (refine wpList_build_zero rfl rfl ?_;go_simp))
 refine bodyPost_ret (v:=.tuple #[.agg #[.int .i64 0,.int .i64 0,.string ⟨#[]⟩],.bool true]) (by simp [results,Tryz.results162,go_sem,q0,q1,q2]) rfl ⟨rfl,?_⟩
 have hb1:=unhide HB
 exact ((hb1.setCell (p:=⟨w.heap.size+1,0,none⟩) (by simp) _).setCell (p:=⟨w.heap.size+1,1,none⟩) (by simp) _).setCell (p:=⟨w.heap.size+1,2,none⟩) (by simp) _
end Go.Proofs.YtamafdcnbcoegabGreat
