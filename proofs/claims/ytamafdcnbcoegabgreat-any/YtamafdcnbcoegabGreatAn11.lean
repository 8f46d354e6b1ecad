/-
  Part 11 of a proof: K23, K24, K25, K26, K28, K29, K19.
-/
import Derived.Test.YtamafdcnbcoegabGreatAn10
namespace Go.Proofs.YtamafdcnbcoegabGreat
open Go.RowKit
structure Alv (op ct n:Nat) (st:Mod.Stv) (e:Nat) (logs:Nat→List ByteArray):Prop where
 dead:st.dk.dead=false
 arm:st.dk.armed=n
 op:st.opening=op
 ct:st.count ≤ ct
 dk:Mod.SkDisk st.dk.bytes st.opening st.count st.head e logs
structure Ded (op:Nat) (st:Mod.Stv) (e:Nat) (logs:Nat→List ByteArray):Prop where
 dead:st.dk.dead=true
 op:st.opening=op
 dk:∃ ct hd,Mod.SkDisk st.dk.bytes st.opening ct hd e logs
theorem alv_next {op ct n:Nat} {st:Mod.Stv} {e:Nat} {logs:Nat→List ByteArray} (h:Alv op ct n st e logs) (hct:ct+1 < 18446744073709551616):st.next=st.count+1:=by
 have:=h.ct
 unfold Mod.Stv.next
 omega
theorem alv_rec {op ct n:Nat} {st:Mod.Stv} {e:Nat} {logs:Nat→List ByteArray} (h:Alv op ct n st e logs) (hct:ct+1 < 18446744073709551616) (hn:n ≠ 1) {s:Nat} (hs:s < 3) {b:ByteArray} (hb:b.size ≤ 20) (hr:Mod.cnt logs < 120) :
  (st.putRecord (Mod.cnt logs) s ((logs s).length+1) b.data.toList).1=0∧Alv op (ct+1) (n - 1) (st.putRecord (Mod.cnt logs) s ((logs s).length+1) b.data.toList).2 e (Mod.logAdd logs s b):=by
 have hnx:=alv_next h hct
 have hd:=h.dk.commit (b:=b) hs hb hr (by have:=h.ct;omega)
 have h1:=h.dead
 have h2:=h.arm
 have h3:=h.ct
 unfold Mod.Stv.putRecord Mod.Dk.put
 rw [if_neg (by rw [h1];simp),if_neg (by rw [h2];exact hn),hnx]
 exact ⟨rfl,rfl,by show st.dk.armed - 1=n - 1;rw [h2],h.op,by show st.count+1 ≤ ct+1;omega,hd⟩
theorem ded_rec {op ct:Nat} {st:Mod.Stv} {e:Nat} {logs:Nat→List ByteArray} (h:Alv op ct 1 st e logs) (k s q:Nat) (b:List UInt8) :
  (st.putRecord k s q b).1=4∧Ded op (st.putRecord k s q b).2 e logs:=by
 have h1:=h.dead
 have h2:=h.arm
 unfold Mod.Stv.putRecord Mod.Dk.put
 rw [if_neg (by rw [h1];simp),if_pos h2]
 exact ⟨rfl,rfl,h.op,_,_,h.dk⟩
theorem alv_num {op ct n:Nat} {st:Mod.Stv} {e:Nat} {logs:Nat→List ByteArray} (h:Alv op ct n st e logs) (hct:ct+1 < 18446744073709551616) (hn:n ≠ 1) {e':Nat} (he:e' ≤ 2147483647) :
  (st.putNumbers e' 0 0).1=0∧Alv op (ct+1) (n - 1) (st.putNumbers e' 0 0).2 e' logs:=by
 have hnx:=alv_next h hct
 have hd:=h.dk.epoch he (by have:=h.ct;omega)
 have h1:=h.dead
 have h2:=h.arm
 have h3:=h.ct
 unfold Mod.Stv.putNumbers Mod.Dk.put
 rw [if_neg (by rw [h1];simp),if_neg (by rw [h2];exact hn),hnx]
 exact ⟨rfl,rfl,by show st.dk.armed - 1=n - 1;rw [h2],h.op,by show st.count+1 ≤ ct+1;omega,hd⟩
theorem ded_num {op ct:Nat} {st:Mod.Stv} {e:Nat} {logs:Nat→List ByteArray} (h:Alv op ct 1 st e logs) (a b c:Nat) :
  (st.putNumbers a b c).1=4∧Ded op (st.putNumbers a b c).2 e logs:=by
 have h1:=h.dead
 have h2:=h.arm
 unfold Mod.Stv.putNumbers Mod.Dk.put
 rw [if_neg (by rw [h1];simp),if_pos h2]
 exact ⟨rfl,rfl,h.op,_,_,h.dk⟩
def DeadAt (op:Nat) (w x:World) (p e:Nat) (logs:Nat→List ByteArray) (c:Sv):Prop:=∃ sh st,PkStep w x p e logs sh st c∧Ded op st e logs
def CmG (op ct n:Nat) (w x:World) (p:Nat) (a:Mod.Sk) (i:Nat) (b:ByteArray) (c:Sv) (out:List ByteArray):Prop :=
 ∃ sh st,InCm a i ((a.logs i).length+1) b out sh∧(Alv op (ct+out.length) (n - out.length) st a.epoch (grown a i out).logs∧(n=0 ∨ out.length < n))∧PkStep w x p a.epoch (grown a i out).logs sh st c
theorem grown_add (a:Mod.Sk) (s:Nat) (out:List ByteArray) (c:ByteArray):Mod.logAdd (grown a s out).logs s c=(grown a s (out ++ [c])).logs:=by
 have:=grown_snoc a s out c
 exact this
theorem commit_gen {op ct n:Nat} {w:World} {p:Nat} {a:Mod.Sk} {sh:Nat→List (Nat × Value)} {st:Mod.Stv} {c:Sv} {out:List ByteArray} {i:Nat} (hi:i < 3) (H:PkAt w p a.epoch (grown a i out).logs sh st c) (hs:Alv op (ct+out.length) (n - out.length) st a.epoch (grown a i out).logs) (hn:n=0 ∨ out.length < n) (b:ByteArray) (hb:b.size ≤ 20) (hroom:a.count+out.length < 120) (hct:ct+1000 < 18446744073709551616) :
  Calls Tryz.prog 203 #[ptrTo p,.int .i64 i,.string b] w fun r w' =>
   (r = .returned (.int .i64 0)∧(n=0 ∨ out.length+1 < n)∧∃ st',Alv op (ct+(out ++ [b]).length) (n - (out ++ [b]).length) st' a.epoch (grown a i (out ++ [b])).logs∧PkStep w w' p a.epoch (grown a i (out ++ [b])).logs sh st' c) ∨
   (r = .returned (.int .i64 4)∧n=out.length+1∧DeadAt op w w' p a.epoch (grown a i out).logs c):=by
 have hcn:Mod.cnt (grown a i out).logs < 120:=by
  have:=grown_sum a i hi out
  unfold Mod.cnt
  omega
 refine (commit_any H i hi b hb (by rw [grown_sum a i hi];exact hroom)).mono ?_
 rintro r w' ⟨rfl,h⟩
 by_cases h1:n=out.length+1
 ·right
  have hs1:Alv op (ct+out.length) 1 st a.epoch (grown a i out).logs:=by rw [show n - out.length=1 by omega] at hs;exact hs
  obtain ⟨k1,k2⟩:=ded_rec hs1 (((grown a i out).logs 0).length+((grown a i out).logs 1).length+((grown a i out).logs 2).length) i (((grown a i out).logs i).length+1) b.data.toList
  rw [k1,if_neg (by omega)] at h
  exact ⟨by rw [k1],h1,sh,_,h,k2⟩
 ·left
  obtain ⟨k1,k2⟩:=alv_rec hs (by omega) (by omega) hi hb hcn
  unfold Mod.cnt at k1 k2
  rw [k1,if_pos rfl,grown_snoc] at h
  rw [grown_add] at k2
  refine ⟨by rw [k1],by omega,_,?_,h⟩
  rw [List.length_append,List.length_singleton,show ct+(out.length+1)=ct+out.length+1 by omega,show n - (out.length+1)=n - out.length - 1 by omega]
  exact k2
theorem commit_ok {op ct n:Nat} {w:World} {p:Nat} {a:Mod.Sk} {sh:Nat→List (Nat × Value)} {st:Mod.Stv} {c:Sv} {out:List ByteArray} {i:Nat} (hi:i < 3) (H:PkAt w p a.epoch (grown a i out).logs sh st c) (hs:Alv op (ct+out.length) (n - out.length) st a.epoch (grown a i out).logs) (hn:n=0 ∨ out.length < n) (b:ByteArray) (hb:b.size ≤ 20) (hroom:a.count+out.length < 120) (hct:ct+1000 < 18446744073709551616) (h1:n ≠ out.length+1) :
  Calls Tryz.prog 203 #[ptrTo p,.int .i64 i,.string b] w fun r w' =>
   r = .returned (.int .i64 0)∧∃ st',(Alv op (ct+(out ++ [b]).length) (n - (out ++ [b]).length) st' a.epoch (grown a i (out ++ [b])).logs∧(n=0 ∨ (out ++ [b]).length < n))∧PkStep w w' p a.epoch (grown a i (out ++ [b])).logs sh st' c:=by
 refine (commit_gen hi H hs hn b hb hroom hct).mono ?_
 rintro r w' (⟨h2,h3,st',h4,h5⟩ | ⟨_,h3,_⟩)
 ·exact ⟨h2,st',⟨h4,by rw [List.length_append,List.length_singleton];exact h3⟩,h5⟩
 ·exact absurd h3 h1
theorem commit_bad {op ct n:Nat} {w:World} {p:Nat} {a:Mod.Sk} {sh:Nat→List (Nat × Value)} {st:Mod.Stv} {c:Sv} {out:List ByteArray} {i:Nat} (hi:i < 3) (H:PkAt w p a.epoch (grown a i out).logs sh st c) (hs:Alv op (ct+out.length) (n - out.length) st a.epoch (grown a i out).logs) (hn:n=0 ∨ out.length < n) (b:ByteArray) (hb:b.size ≤ 20) (hroom:a.count+out.length < 120) (hct:ct+1000 < 18446744073709551616) (h1:n=out.length+1) :
  Calls Tryz.prog 203 #[ptrTo p,.int .i64 i,.string b] w fun r w' =>
   r = .returned (.int .i64 4)∧DeadAt op w w' p a.epoch (grown a i out).logs c:=by
 refine (commit_gen hi H hs hn b hb hroom hct).mono ?_
 rintro r w' (⟨_,h3,_⟩ | ⟨h2,_,h4⟩)
 ·omega
 ·exact ⟨h2,h4⟩
theorem commitFrom_pre {a:Mod.Sk} {st q n:Nat}:∀ (f:Nat) (out:List ByteArray),∃ more,a.commitFrom st q n f out=out ++ more
 | 0,out => ⟨[],by simp [Mod.Sk.commitFrom]⟩
 | f+1,out => by
  unfold Mod.Sk.commitFrom
  split
  ·split
   ·exact ⟨[],by simp⟩
   ·rename_i k _
    obtain ⟨m,h⟩:=commitFrom_pre (a:=a) (st:=st) (q:=q) (n:=n) f (out ++ [(a.held.getD k (0,0,⟨#[]⟩)).2.2])
    exact ⟨(a.held.getD k (0,0,⟨#[]⟩)).2.2 :: m,by rw [h,List.append_assoc];rfl⟩
  ·exact ⟨[],by simp⟩
def FinD (op n:Nat) (w x:World) (p:Nat) (a:Mod.Sk) (i:Nat) (b:ByteArray) (c:Sv):Prop :=
 1 ≤ n∧n ≤ (a.commitFrom i ((a.logs i).length+1) a.count 120 [b]).length∧DeadAt op w x p a.epoch (grown a i ((a.commitFrom i ((a.logs i).length+1) a.count 120 [b]).take (n - 1))).logs c
theorem inCm_pre {a:Mod.Sk} {s q:Nat} {b:ByteArray} {out:List ByteArray} {sh:Nat→List (Nat × Value)} (I:InCm a s q b out sh):∃ more,a.commitFrom s q a.count 120 [b] = out ++ more:=by
 rw [← I.run]
 exact commitFrom_pre _ _
set_option maxRecDepth 100000 in
set_option maxHeartbeats 8000000 in
theorem commitFrom_gen {op ct n:Nat} {w:World} {p:Nat} {a:Mod.Sk} {sh:Nat→List (Nat × Value)} {st:Mod.Stv} {c:Sv} (H:PkAt w p a.epoch a.logs sh st c) (hc:Alv op ct n st a.epoch a.logs) (hct:ct+1000 < 18446744073709551616) (G:SkGood a) (M:SkMore a) (O:OnSh a.held sh) (i:Nat) (hi:i < 3) (b:ByteArray) (hb:b.size ≤ 20) (hroom:a.count < 120) :
  Calls Tryz.prog 179 #[ptrTo p,.int .i64 i,.string b] w fun r w' =>
   (r = .returned (.int .i64 0)∧∃ out,CmG op ct n w w' p a i b c out∧out=a.commitFrom i ((a.logs i).length+1) a.count 120 [b]) ∨
   (r = .returned (.int .i64 4)∧FinD op n w w' p a i b c):=by
 have I0:=inCm_start G M O H.ks.are i b hi hb hroom
 have hn0:n=0 ∨ ([]:List ByteArray).length < n:=by simp;omega
 have hpre0:=inCm_pre I0
 have hfail:∀ out x,n=out.length+1→(∃ more,a.commitFrom i ((a.logs i).length+1) a.count 120 [b] = out ++ more∧more ≠ [])→DeadAt op w x p a.epoch (grown a i out).logs c→FinD op n w x p a i b c:=by
  rintro out x hn ⟨more,hm,hne⟩ hd
  have hml:0 < more.length:=List.length_pos_iff.2 hne
  refine ⟨by omega,by rw [hm,List.length_append];omega,?_⟩
  rw [hm,show n - 1=out.length by omega,List.take_left']
  ·exact hd
  ·rfl
 have HFAIL:=fun out x h1 h2 h3 => hide (hfail out x h1 h2 h3)
 clear hfail
 have hpl:=lt_of_block H.ks.blk
 have hlen:(a.logs i).length ≤ 120:=H.ks.loglen hi
 have hi0:(0:Int) ≤ (i:Int):=by omega
 have hi3:(i:Int) < 3:=by omega
 have HI0:=hide I0
 have hall:∀ y,(∃ v:Int,(v=0∧∃ out,CmG op ct n w y p a i b c out) ∨ (v=4∧FinD op n w y p a i b c))→Hid (∃ v:Int,(v=0∧∃ out,CmG op ct n w y p a i b c out) ∨ (v=4∧FinD op n w y p a i b c)):=fun y h => h
 have hC0:Calls Tryz.prog 203 #[ptrTo p,.int .i64 i,.string b] w fun r y => ∃ v:Int,r = .returned (.int .i64 v)∧((v=0∧∃ out,CmG op ct n w y p a i b c out) ∨ (v=4∧FinD op n w y p a i b c)):=by
  by_cases h1:n=([]:List ByteArray).length+1
  ·refine (commit_bad (out:=[]) hi (by rw [grown_zero];exact H) (by rw [grown_zero];exact hc) hn0 b hb (by simpa using hroom) hct h1).mono ?_
   rintro r y ⟨rfl,hd⟩
   obtain ⟨m,hm⟩:=hpre0
   exact ⟨4,rfl,.inr ⟨rfl,unhide (HFAIL [] y h1 ⟨_,by rw [hm];rfl,by simp⟩ hd)⟩⟩
  ·refine (commit_ok (out:=[]) hi (by rw [grown_zero];exact H) (by rw [grown_zero];exact hc) hn0 b hb (by simpa using hroom) hct h1).mono ?_
   rintro r y ⟨rfl,st',h2,h3⟩
   exact ⟨0,rfl,.inl ⟨rfl,[b],sh,st',I0,by simpa using h2,by simpa using h3⟩⟩
 have hC0:=hide hC0
 clear H I0 hall hpre0 hn0
 unfold ptrTo at *
 go_enter Tryz.func179,Tryz.ntmps179
 go_upto_region 3 with (go_at_call 203;refine (unhide hC0).mono ?_;rintro r y ⟨v0,rfl,hv0⟩)
 have HV0:=hide hv0
 clear hv0 HI0 hC0
 go_loopw [8,9,10] (fun v8 _ _ wr => ∃ v:Int,v8 = .int .i64 v∧((v=0∧∃ out,CmG op ct n w wr p a i b c out) ∨ (v=4∧FinD op n w wr p a i b c))) (fun v8 _ _ wr => if intOf v8=0 then 200 - sliceLen (wr.cell? ⟨p,2+i * 3,none⟩) else 0)
 case atStart => exact ⟨v0,rfl,unhide HV0⟩
 case round =>
  obtain ⟨v,rfl,hrel⟩:=hrel
  clear HV0
  rcases hrel with ⟨rfl,hrel⟩ | ⟨rfl,hfin⟩
  ·obtain ⟨out,sh1,st1,I,hs1,hk1⟩:=hrel
   obtain ⟨c1,K1,F1,N1,e1,e2⟩:=id hk1
   have hgs:=grown_self a i out
   obtain ⟨ad,cap,hlv,clog⟩:=K1.ks.logc hi
   rw [hgs,List.length_append] at hlv clog
   have hRM:=hide (hasRoom_any K1.ks)
   rw [grown_sum a i hi] at hRM
   have HI:=hide I
   have HK:=hide hk1
   have HK1:=hide K1
   have hmes:200 - sliceLen (wr.cell? ⟨p,2+i * 3,none⟩)=200 - ((a.logs i).length+out.length):=by rw [clog];rfl
   by_cases hr:a.count+out.length < 120
   ·rw [decide_eq_true hr] at hRM
    obtain ⟨q,hq⟩:∃ q,q=(a.logs i).length+out.length+1:=⟨_,rfl⟩
    have hoL:out.length ≤ 120:=by omega
    have hNX:=fun y (hy:Below wr.heap.size wr y) => hide (sinkNext_any y p (2+i * 3) _ cap ad ((hy.cell (p:=⟨p,2+i * 3,none⟩) (lt_of_block K1.ks.blk)).trans clog) (by omega))
    rw [← hq] at hNX
    have hTK:∃ (tb:ByteArray) (hv:Bool) (sh2:Nat→List (Nat × Value)),(∀ y,Below wr.heap.size wr y→Calls Tryz.prog 204 #[.pointer (some ⟨p,2+i * 3+1,none⟩),.int .i64 q] y fun r w' => r = .returned (.tuple #[.agg #[.string tb],.bool hv])∧TkAt wr w' p a.epoch (grown a i out).logs sh2 st1 c1∧Far (fun k => k=p ∨ ShU (c1.nv i) (c1.mv i) k) y w') ∧
      ((hv=true∧look (sh1 i) (q:Int)=some (recS tb)∧sh2=fun t => if t=i then delL (sh1 i) q else sh1 t) ∨ (hv=false∧look (sh1 i) (q:Int)=none∧sh2=sh1)):=by
     rcases areS_look (K1.ks.are i hi) (q:Int) with ⟨tb,hl⟩ | hl
     ·refine ⟨tb,true,_,?_,.inl ⟨rfl,hl,rfl⟩⟩
      intro y hy
      have Ky:=K1.far (far_below (E:=fun _ => False) hy) (fun _ _ h => h)
      refine (takeS_some (Ky.shAt hi) q tb hl).mono ?_
      rintro r w' ⟨rfl,hT⟩
      obtain ⟨c',h1,h2,h3,h4,h5⟩:=tkAt_took Ky hi hT (fun x hx => K1.ks.are i hi x ((delL_sub _ _).subset hx))
      exact ⟨rfl,⟨c',h1,h2,(far_below (E:=PkU p c1) hy).trans h3 (fun _ _ h => h),h4,h5⟩,hT.far⟩
     ·refine ⟨⟨#[]⟩,false,_,?_,.inr ⟨rfl,hl,rfl⟩⟩
      intro y hy
      have Ky:=K1.far (far_below (E:=fun _ => False) hy) (fun _ _ h => h)
      refine (takeS_none (Ky.shAt hi) q hl).mono ?_
      rintro r w' ⟨rfl,hT⟩
      exact ⟨rfl,⟨c1,Ky.far (far_below (E:=fun _ => False) hT) (fun _ _ h => h),fun _ h => h,(far_below (E:=PkU p c1) hy).trans (far_below hT) (fun _ _ h => h),rfl,rfl⟩,far_below hT⟩
    have hEl:∀ k,(k=p ∨ ShU (c1.nv i) (c1.mv i) k)→k < wr.heap.size:=fun k hk => K1.ks.lt k (hk.elim .inl (fun h => .inr (.inr ⟨i,hi,h⟩)))
    have hUl:∀ k,PkU p c1 k→k < wr.heap.size:=K1.lt
    have hSort:=(K1.ks.shs i hi).sorted
    have hN1:∀ k,PkU p c1 k→PkU p c k ∨ w.heap.size ≤ k:=N1
    have hFw:=F1
    obtain ⟨tb,hv,sh2,hT1,hT2⟩:=hTK
    have HT1:=hide hT1
    have HT2:=hide hT2
    have HQ:=hide hq
    have HSORT:=hide hSort
    have HMES:=hide hmes
    have HFN:=hide (And.intro hN1 (And.intro hFw (And.intro e1 e2)))
    clear hk1 K1 F1 N1 I hlv clog hgs hmes hT1 hT2 hq hSort hN1 hFw e1 e2
    unfold ptrTo at hRM
    go_upto_region 4 with (go_at_call 178;refine (unhide hRM).mono ?_;rintro r y ⟨rfl,rfl⟩)
    refine wp_region_key (by kernel_rfl)
     [fun v _ => v = .pointer (some ⟨p,2+i * 3,none⟩),fun v _ => v = .pointer (some ⟨p,2+i * 3,none⟩),fun v _ => v = .pointer (some ⟨p,2+i * 3+1,none⟩),fun v _ => v = .pointer (some ⟨p,2+i * 3,none⟩),fun v _ => v = .int .i64 q,fun v z => v = .tuple #[.agg #[.string tb],.bool hv] ∧ TkAt y z p a.epoch (grown a i out).logs sh2 st1 c1,fun v _ => v = .tuple #[.agg #[.string tb],.bool hv],fun v _ => v = .agg #[.string tb],fun v _ => v = .bool hv,
     fun v z => ∃ g x,v = .pointer (some ⟨g,0,none⟩)∧y.heap.size ≤ g∧z.heap[g]? = some (.cells #[.string x] 224 (0,0)),fun v z => ∃ g,v = .pointer (some ⟨g,0,none⟩)∧y.heap.size ≤ g∧z.heap[g]? = some (.cells #[.string tb] 224 (0,0)),fun v _ => v = .bool hv]
     [[(7,none)],[(27,some 0)],[(28,some 1)],[(7,none)],[(30,some 3)],[(29,some 2),(31,some 4)],[(32,some 5)],[(26,some 6)],[(26,some 6)],[],[(9,some 9),(33,some 7)],[(34,some 8)]] [27,28,29,30,31,32,26,33,34,9,9,10] [false,false,false,false,false,false,false,false,false,true,true,false,false,false,false,false,false,false,false,false,false,false,false,false,false,false,true,true,true,true,true,true,true,true,true,false,false,false,false,false,false,false,false]
     [(5,fun k => k=p ∨ ShU (c1.nv i) (c1.mv i) k),(10,fun k => y.heap.size ≤ k)]
     10 RecKept recKept_refl
     (by kernel_rfl) (by kernel_rfl) (by kernel_rfl) (by kernel_rfl) (by kernel_rfl) (by kernel_rfl) ?_ ?_ ?_ ?_
    ·repeat' (first | exact stable_eq _ | exact stable_true | exact (fun _ u z h hb => ⟨h.1,h.2.far hUl (far_below (E:=fun _ => False) hb) (fun _ h => h.elim)⟩) | exact (fun _ u z h hb => h.imp fun _ h => h.imp fun _ h => ⟨h.1,h.2.1,(hb.block _ (lt_of_block h.2.2)).trans h.2.2⟩) | exact (fun _ u z h hb => h.imp fun _ h => ⟨h.1,h.2.1,(hb.block _ (lt_of_block h.2.2)).trans h.2.2⟩) | exact trivial | apply And.intro)
    ·refine ⟨?_,?_,trivial⟩
     ·repeat' (first | exact trivial | exact .inl rfl | exact .inr (.inr (stableX_of (stableF_eq _ _))) | exact .inr (.inr (stableX_of (fun _ u z h hF => h.imp fun g h => h.imp fun _ h => ⟨h.1,h.2.1,hF.blk h.2.2 (fun e => by have:=hEl g e;omega)⟩))) | exact .inr (.inr (stableX_of (fun _ u z h hF => h.imp fun g h => ⟨h.1,h.2.1,hF.blk h.2.2 (fun e => by have:=hEl g e;omega)⟩))) | apply And.intro)
     ·repeat' (first | exact trivial | exact .inl rfl | exact .inr (.inr (stableX_of (stableF_eq _ _))) | exact .inr (.inr (stableX_of (fun _ u z h hF => ⟨h.1,h.2.far hUl hF (fun _ h => h)⟩))) | exact .inr (.inr (fun _ u z h _ hX => h.imp fun g h => by obtain ⟨x,h1,h2,h3⟩:=h;obtain ⟨x',h4⟩:=hX rfl g x h3;exact ⟨x',h1,h2,h4⟩)) | apply And.intro)
    ·refine ⟨?_,?_,?_,?_,?_,?_,?_,?_,?_,?_,?_,?_,trivial⟩
     all_goals
      intro a' z hb hf
      simp only [PlanFacts,List.getD_cons_zero,List.getD_cons_succ,Array.getD_eq_getD_getElem?] at hf
      try simp at hf
     iterate 4
      ·clear hb
       go_simp
       exact ⟨_,rfl,Far.refl _ _,rfl⟩
     ·have hbz:Below y.heap.size y z:=hb.below (Nat.le_refl _) (by
       rintro k hk ⟨q',hq',g1,g2,g3⟩
       simp at hq'
       rcases hq' with rfl | rfl
       ·exact absurd (show depB _ 5 4=false from g2) (by decide +kernel)
       ·have g3:y.heap.size ≤ k:=g3
        omega)
      have HC:=hide (unhide (hNX z hbz))
      clear hb hbz
      go_simp
      refine (unhide HC).mono ?_
      rintro r z2 ⟨rfl,rfl⟩
      exact ⟨_,rfl,Far.refl _ _,rfl⟩
     ·have hbz:Below y.heap.size y z:=hb.below (Nat.le_refl _) (by
       rintro k hk ⟨q',hq',g1,g2,g3⟩
       simp at hq'
       rcases hq' with rfl | rfl
       ·exact g1 rfl
       ·have g3:y.heap.size ≤ k:=g3
        omega)
      have HC:=hide ((unhide HT1) z hbz)
      clear hb hbz
      go_simp
      refine (unhide HC).mono ?_
      rintro r z2 ⟨rfl,h1,h2⟩
      exact ⟨_,rfl,footOf_of (.head _) h2,⟨rfl,h1⟩⟩
     ·obtain ⟨hf,_⟩:=hf
      clear hb
      go_simp
      exact ⟨_,rfl,Far.refl _ _,rfl⟩
     iterate 2
      ·clear hb
       go_simp
       exact ⟨_,rfl,Far.refl _ _,rfl⟩
     ·have hzz:=hb.size
      clear hb
      go_simp
      exact ⟨_,rfl,far_below ((Below.refl _ _).alloc (Nat.le_refl _) _),⟨_,rfl,hzz,⟨#[]⟩,heap_alloc_new _ _⟩⟩
     ·obtain ⟨⟨g,hg1,hg2,x0,hg3⟩,hf33⟩:=hf
      clear hb
      have y0:z.cell? ⟨g,0,none⟩=some (.string x0):=blk_cell (i:=0) hg3
      have yf:z.frozen? ⟨g,0,none⟩=false:=blk_free (i:=0) hg3
      have HG:=hide (And.intro hg2 hg3)
      clear hg2 hg3
      have hk9:=hg1
      go_simp
      obtain ⟨g1,g2⟩:=unhide HG
      refine ⟨footOf_of (.tail _ (.head _)) ((far_set z g 0 (.string tb)).mono (fun k _ e => by rw [e];exact g1)),⟨undef,g,?_,g1,?_⟩,?_⟩
      ·show a'.tmps.getD 9 undef=_
       rw [Array.getD_eq_getD_getElem?]
       exact hk9
      ·have:=blk_set (j:=0) (v:=.string tb) g2
       simpa using this
      ·exact recKept_set z g tb
     ·clear hb
      go_simp
      exact ⟨_,rfl,Far.refl _ _,rfl⟩
    ·intro f z hF hwd
     obtain ⟨_,hT⟩:=hwd.2.2.2.2.2.1
     obtain ⟨g,hg1,hg2,hg3⟩:=hwd.2.2.2.2.2.2.2.2.2.2.1
     have h10:=hwd.2.2.2.2.2.2.2.2.2.2.2.1
     clear hwd hF
     simp only [mergeT,hg1,h10]
     generalize f 26=x26
     generalize f 27=x27
     generalize f 28=x28
     generalize f 29=x29
     generalize f 30=x30
     generalize f 31=x31
     generalize f 32=x32
     generalize f 33=x33
     generalize f 34=x34
     obtain ⟨hN1,hFw,e1,e2⟩:=unhide HFN
     obtain ⟨c2,K2,S2,F2,t1,t2⟩:=hT
     have hST:PkStep w z p a.epoch (grown a i out).logs sh2 st1 c:=⟨c2,K2,hFw.trans F2 (fun k hk hu => (hN1 k hu).elim id (fun h => by omega)),fun k hk => hN1 k (S2 k hk),t1.trans e1,t2.trans e2⟩
     have HST:=hide hST
     have zb:z.cell? ⟨g,0,none⟩=some (.string tb):=blk_cell (i:=0) hg3
     have HK2:=hide K2
     have hlow:∀ k,PkU p c2 k→PkU p c k ∨ w.heap.size ≤ k:=fun k hk => hN1 k (S2 k hk)
     have hfz:=hFw.trans F2 (fun k hk hu => (hN1 k hu).elim id (fun h => by omega))
     have HLOW:=hide (And.intro hlow (And.intro hfz (And.intro (t1.trans e1) (t2.trans e2))))
     rcases unhide HT2 with ⟨rfl,hl,hsh⟩ | ⟨rfl,hl,hsh⟩
     ·have hq:=unhide HQ
      have I:=unhide HI
      have hbt:tb.size ≤ 20:=M.bod _ ((I.on i hi q tb).1 hl).1
      rw [hq] at hl hsh
      have I2:=inCm_next G M hi I hr (unhide HSORT) hl
      rw [← hsh] at I2
      obtain ⟨hsa,hsn⟩:=hs1
      obtain ⟨more2,hm2⟩:=inCm_pre I2
      have hcomp:∀ logs sh st u,PkStep z u p a.epoch logs sh st c2→PkStep w u p a.epoch logs sh st c:=by
       rintro logs sh st u ⟨c3,K3,F3,N3,s1,s2⟩
       refine ⟨c3,K3,hfz.trans F3 (fun k hk hu => (hlow k hu).elim id (fun h => by omega)),fun k hk => ?_,s1.trans (t1.trans e1),s2.trans (t2.trans e2)⟩
       have hsz:=hfz.size
       rcases N3 k hk with h | h
       ·exact hlow k h
       ·exact .inr (Nat.le_trans hsz h)
      have hCM:Calls Tryz.prog 203 #[ptrTo p,.int .i64 i,.string tb] z fun r u => ∃ v:Int,r = .returned (.int .i64 v)∧((v=0∧CmG op ct n w u p a i b c (out ++ [tb])) ∨ (v=4∧FinD op n w u p a i b c)):=by
       by_cases h1:n=out.length+1
       ·refine (commit_bad (out:=out) hi K2 hsa hsn tb hbt hr hct h1).mono ?_
        rintro r u ⟨rfl,sh3,st3,hd1,hd2⟩
        exact ⟨4,rfl,.inr ⟨rfl,unhide (HFAIL out u h1 ⟨tb :: more2,by rw [hm2];simp,by simp⟩ ⟨sh3,st3,hcomp _ _ _ _ hd1,hd2⟩)⟩⟩
       ·refine (commit_ok (out:=out) hi K2 hsa hsn tb hbt hr hct h1).mono ?_
        rintro r u ⟨rfl,st',h2,h3⟩
        exact ⟨0,rfl,.inl ⟨rfl,sh2,st',I2,h2,hcomp _ _ _ _ h3⟩⟩
      have HCM:=hide hCM
      unfold ptrTo at HCM
      clear hl hsh hq I I2 hST K2 S2 F2 hlow hfz hN1 hFw e1 e2 t1 t2 hg3 HT1 HT2 HQ HI HK HK1 HFN HST hcomp hCM hsa hsn hm2 HLOW HK2
      go_wp2_with (go_at_call 203;refine (unhide HCM).mono ?_;rintro r u ⟨v,rfl,hv⟩;replace hv:=hide hv)
      have hmes:=unhide HMES
      go_roundw
      case rel =>
       rcases unhide hv with ⟨rfl,h⟩ | ⟨rfl,h⟩
       ·exact ⟨0,rfl,.inl ⟨rfl,_,h⟩⟩
       ·exact ⟨4,rfl,.inr ⟨rfl,h⟩⟩
      case measure =>
       rcases unhide hv with ⟨rfl,sh3,st3,_,_,c3,K3,_⟩ | ⟨rfl,h⟩
       ·obtain ⟨ad3,cap3,_,cl⟩:=K3.ks.logc hi
        rw [hmes,cl]
        show (if (0:Int)=0 then 200 - ((grown a i (out ++ [tb])).logs i).length else 0) < (if (0:Int)=0 then _ else 0)
        rw [if_pos rfl,if_pos rfl,grown_self,List.length_append,List.length_append,List.length_singleton]
        have hcl:=count_len (a:=a) hi
        omega
       ·rw [hmes]
        show (if (4:Int)=0 then _ else 0) < (if (0:Int)=0 then _ else 0)
        rw [if_neg (by omega),if_pos rfl]
        have hcl:=count_len (a:=a) hi
        omega
     ·have hq:=unhide HQ
      have I:=unhide HI
      rw [hq] at hl
      have HOUT:=hide (inCm_stop hi I (.inr hl))
      subst hsh
      clear hl hq I hST K2 S2 F2 hlow hfz hN1 hFw e1 e2 t1 t2 hg3 HT1 HT2 HQ HK HK1 HFN HLOW HK2
      go_wp2
      go_ret
      exact .inl ⟨rfl,out,⟨_,st1,unhide HI,hs1,unhide HST⟩,unhide HOUT⟩
   ·rw [decide_eq_false hr] at hRM
    have HST:=hide (inCm_stop hi I (.inl hr))
    clear hk1 K1 F1 N1 I hlv clog hgs hmes
    unfold ptrTo at hRM
    go_wp2_with (go_at_call 178;refine (unhide hRM).mono ?_;rintro r y ⟨rfl,rfl⟩)
    go_ret
    exact .inl ⟨rfl,out,⟨sh1,st1,unhide HI,hs1,unhide HK⟩,unhide HST⟩
  ·have HFN:=hide hfin
   clear hfin HFAIL
   go_wp2
   go_ret
   exact .inr ⟨rfl,unhide HFN⟩
end Go.Proofs.YtamafdcnbcoegabGreat
namespace Go.Proofs.YtamafdcnbcoegabGreat
open Go.RowKit
def SkIs2 (op ct n:Nat) (w x:World) (p:Nat) (a:Mod.Sk) (c:Sv):Prop:=∃ sh st,PkStep w x p a.epoch a.logs sh st c∧Alv op ct n st a.epoch a.logs∧OnSh a.held sh
theorem SkIs2.behind {op ct n:Nat} {w x y:World} {p:Nat} {a:Mod.Sk} {c:Sv} (h:SkIs2 op ct n x y p a c) (hb:Below w.heap.size w x):SkIs2 op ct n w y p a c:=by
 obtain ⟨sh,st,⟨c',K,F,N,s1,s2⟩,hs,O⟩:=h
 exact ⟨sh,st,⟨c',K,(far_below (E:=PkU p c) hb).trans F (fun _ _ h => h),fun k hk => (N k hk).imp id (fun h => Nat.le_trans hb.size h),s1,s2⟩,hs,O⟩
theorem SkIs2.below {op ct n:Nat} {w x y:World} {p:Nat} {a:Mod.Sk} {c:Sv} (h:SkIs2 op ct n w x p a c) (hb:Below x.heap.size x y):SkIs2 op ct n w y p a c:=by
 obtain ⟨sh,st,h,hs,O⟩:=h
 exact ⟨sh,st,h.below hb,hs,O⟩
theorem skIs2_refl {op ct n:Nat} {w:World} {p:Nat} {a:Mod.Sk} {sh:Nat→List (Nat × Value)} {st:Mod.Stv} {c:Sv} (H:PkAt w p a.epoch a.logs sh st c) (hs:Alv op ct n st a.epoch a.logs) (O:OnSh a.held sh):SkIs2 op ct n w w p a c:=⟨sh,st,pkStep_refl H,hs,O⟩
theorem DeadAt.behind {op:Nat} {w x y:World} {p e:Nat} {logs:Nat→List ByteArray} {c:Sv} (h:DeadAt op x y p e logs c) (hb:Below w.heap.size w x):DeadAt op w y p e logs c:=by
 obtain ⟨sh,st,⟨c',K,F,N,s1,s2⟩,hs⟩:=h
 exact ⟨sh,st,⟨c',K,(far_below (E:=PkU p c) hb).trans F (fun _ _ h => h),fun k hk => (N k hk).imp id (fun h => Nat.le_trans hb.size h),s1,s2⟩,hs⟩
def SkOut (op ct n:Nat) (w x:World) (p:Nat) (a a':Mod.Sk) (i:Nat) (cms:List ByteArray) (k:Nat) (c:Sv) (v:Int):Prop :=
 (v=0∧(n=0 ∨ k < n)∧SkIs2 op (ct+k) (n - k) w x p a' c) ∨ (v=4∧1 ≤ n∧n ≤ k∧DeadAt op w x p a.epoch (grown a i (cms.take (n - 1))).logs c)
theorem skOut_same {op ct n:Nat} {w x:World} {p:Nat} {a a':Mod.Sk} {i:Nat} {cms:List ByteArray} {c:Sv} (h:SkIs2 op ct n w x p a' c):SkOut op ct n w x p a a' i cms 0 c 0:=.inl ⟨rfl,by omega,h⟩
theorem SkOut.behind {op ct n:Nat} {w x y:World} {p:Nat} {a a':Mod.Sk} {i:Nat} {cms:List ByteArray} {k:Nat} {c:Sv} {v:Int} (h:SkOut op ct n x y p a a' i cms k c v) (hb:Below w.heap.size w x):SkOut op ct n w y p a a' i cms k c v:=by
 rcases h with ⟨h1,h2,h3⟩ | ⟨h1,h2,h3,h4⟩
 ·exact .inl ⟨h1,h2,h3.behind hb⟩
 ·exact .inr ⟨h1,h2,h3,h4.behind hb⟩
set_option maxRecDepth 100000 in
set_option maxHeartbeats 4000000 in
theorem take_gen {op ct n:Nat} {w:World} {p:Nat} {a:Mod.Sk} {sh:Nat→List (Nat × Value)} {st:Mod.Stv} {c:Sv} (H:PkAt w p a.epoch a.logs sh st c) (hs:Alv op ct n st a.epoch a.logs) (hct:ct+1000 < 18446744073709551616) (G:SkGood a) (M:SkMore a) (O:OnSh a.held sh) (e:Int) (i q:Nat) (hi:i < 3) (hq:q ≤ 2147483647) (b:ByteArray) (hb:b.size ≤ 20) :
  Calls Tryz.prog 135 #[ptrTo p,.agg #[.int .i64 3,.int .i64 e,.int .i64 i,.int .i64 q,.string b]] w fun r w' => ∃ v,r = .returned (.int .i64 v)∧SkOut op ct n w w' p a (skAfter a 3 a.epoch i q b) i (a.commits 3 a.epoch i q b) (a.commits 3 a.epoch i q b).length c v:=by
 have hpl:=lt_of_block H.ks.blk
 obtain ⟨ad,cap,hlv,clog⟩:=H.ks.logc hi
 have hll:=H.ks.loglen hi
 obtain ⟨n1,hn1⟩:∃ n1,n1=(a.logs i).length+1:=⟨_,rfl⟩
 obtain ⟨d,hd⟩:∃ d:Int,d=(q:Int) - (n1:Int):=⟨_,rfl⟩
 have hw:IntKind.i64.wrap ((q:Int) - (n1:Int))=d:=by rw [IntKind.wrap_i64];omega
 have hNX:=fun y (hy:Below w.heap.size w y) => hide (sinkNext_any y p (2+i * 3) _ cap ad ((hy.cell (p:=⟨p,2+i * 3,none⟩) hpl).trans clog) (by omega))
 rw [← hn1] at hNX
 have hHR:=fun y (hy:Below w.heap.size w y) => hide (hasRoom_any (H.ks.far (far_below (E:=fun _ => False) hy) (fun _ _ h => h)))
 have hPK:=fun y (hy:Below w.heap.size w y) => hide (H.far (far_below (E:=fun _ => False) hy) (fun _ _ h => h))
 obtain ⟨room,hroom⟩:∃ room,room=decide ((a.logs 0).length+(a.logs 1).length+(a.logs 2).length < 120):=⟨_,rfl⟩
 rw [← hroom] at hHR
 have hi0:(0:Int) ≤ (i:Int):=by omega
 have hi3:(i:Int) < 3:=by omega
 have HD:=hide (And.intro hn1 (And.intro hd (And.intro hroom hll)))
 have HH:=hide H
 have hBX:=hide (boxAt_new w #[.int .i64 3,.int .i64 e,.int .i64 i,.int .i64 q,.string b])
 clear H hlv clog hn1 hd hroom
 unfold ptrTo at *
 go_enter Tryz.func135,Tryz.ntmps135
 go_upto_region 1 with fail
 refine wp_world (BoxAt w #[.int .i64 3,.int .i64 e,.int .i64 i,.int .i64 q,.string b]) (unhide hBX) ?_
 clear hBX
 intro x X
 have y2:=blk_cell (i:=2) X.box
 have y3:=blk_cell (i:=3) X.box
 simp at y2 y3
 have hXb:=X.bel
 have HX:=hide X
 clear X
 go_quiet (fail)
 go_upto_region 2 with fail
 refine wp_world (BoxAt w #[.int .i64 3,.int .i64 e,.int .i64 i,.int .i64 q,.string b]) ((unhide HX).drewN _) ?_
 clear HX y2 y3 hXb
 intro x2 X
 have y3:=blk_cell (i:=3) X.box
 simp at y3
 have hN:=fun n => hide (unhide (hNX (x2.drewN n) (X.drewN n).bel))
 have HX:=hide X
 clear X hNX
 go_quiet (first | (go_at_call 130;exact Calls.quiet_of_same (unhide (hN _))))
 go_upto_region 3 with fail
 refine wp_world (BoxAt w #[.int .i64 3,.int .i64 e,.int .i64 i,.int .i64 q,.string b]) (by first | exact unhide HX | exact (unhide HX).drewN _ | exact (unhide HX).drew | exact (unhide HX).drew.drew) ?_
 clear HX y3 hN
 intro x3 X
 have y2:=blk_cell (i:=2) X.box
 have y3:=blk_cell (i:=3) X.box
 have y4:=blk_cell (i:=4) X.box
 simp at y2 y3 y4
 have hHX:=hide (unhide (hHR x3 X.bel))
 have HPX:=unhide (hPK x3 X.bel)
 have HX:=hide X
 clear X hHR hPK
 have hstay:=hide ((skIs2_refl HPX hs O).behind (unhide HX).bel)
 by_cases hd0:d=0
 ·have hq1:q=(a.logs i).length+1:=by obtain ⟨h1,h2,_⟩:=unhide HD;omega
  have HQ1:=hide hq1
  clear hq1
  subst hd0
  cases hrv:room
  ·have hnr:¬ (q=(a.logs i).length+1∧a.count < 120):=by
    have h:=(unhide HD).2.2.1
    rw [hrv] at h
    have h:=of_decide_eq_false h.symm
    exact fun h' => h h'.2
   have HCM:=hide (commits_other (b:=b) hnr)
   have hno:skAfter a 3 a.epoch i q b=a:=by
    rw [skAfter_hold hnr,holdIt,if_neg (fun h => by have:=unhide HQ1;omega)]
   rw [hrv] at hHX
   have HNO:=hide hno
   clear HPX hnr hno hrv
   go_upto_region 5 with (go_at_call 178;refine (unhide hHX).mono ?_;rintro r y ⟨rfl,rfl⟩)
   go_quiet (fail)
   go_wp2
   go_ret
   exact ⟨0,rfl,by rw [unhide HNO,unhide HCM];exact skOut_same ((unhide hstay).below (below_drewN (Below.refl _ _) _))⟩
  ·have hr:a.count < 120:=by
    have h:=(unhide HD).2.2.1
    rw [hrv] at h
    exact of_decide_eq_true h.symm
   have hCF:=hide (commitFrom_gen HPX hs hct G M O i hi b hb hr)
   rw [hrv] at hHX
   have HR:=hide hr
   have hCF':Calls Tryz.prog 179 #[ptrTo p,.int .i64 i,.string b] x3 fun r w' => ∃ v:Int,r = .returned (.int .i64 v)∧SkOut op ct n x3 w' p a (takeIt a i (a.commitFrom i ((a.logs i).length+1) a.count 120 [b])) i (a.commitFrom i ((a.logs i).length+1) a.count 120 [b]) (a.commitFrom i ((a.logs i).length+1) a.count 120 [b]).length c v:=by
    refine (unhide hCF).mono ?_
    rintro r y (⟨rfl,out,⟨sh2,st2,I,hs2,hk2⟩,hout⟩ | ⟨rfl,h1,h2,h3⟩)
    ·rw [← hout]
     exact ⟨0,rfl,.inl ⟨rfl,hs2.2,sh2,st2,hk2,hs2.1,inCm_on I⟩⟩
    ·exact ⟨4,rfl,.inr ⟨rfl,h1,h2,h3⟩⟩
   have hCF':=hide hCF'
   clear hCF
   unfold ptrTo at hCF'
   clear HPX hrv hr
   go_wp2_with (first | (go_at_call 178;refine (unhide hHX).mono ?_;rintro r y ⟨rfl,rfl⟩) | (go_at_call 179;refine (unhide hCF').mono ?_;rintro r y ⟨v,rfl,hv⟩;replace hv:=hide hv))
   go_ret
   refine ⟨v,rfl,?_⟩
   rw [unhide HQ1,skAfter_take (unhide HR),commits_some (unhide HR)]
   exact (unhide hv).behind (unhide HX).bel
 ·have hdb:(d == 0)=false:=by simpa using hd0
  have hnr:¬ (q=(a.logs i).length+1∧a.count < 120):=fun h => by obtain ⟨h1,h2,_⟩:=unhide HD;omega
  have hsk:=skAfter_hold (b:=b) hnr
  have HCM:=hide (commits_other (b:=b) hnr)
  clear hnr
  by_cases h1:1 ≤ d
  ·by_cases h3:d ≤ 3
   ·have hHas:=hide (hasS_any HPX.ks.blk (HPX.ks.am i hi) (HPX.ks.shs i hi) (HPX.ks.are i hi) (q:Int))
    have hsort:=(HPX.ks.shs i hi).sorted
    have hix:=onSh_ix O HPX.ks.are hi q
    have hsm:=onSh_small G O HPX.ks.are hi hsort
    obtain ⟨ho,hho⟩:∃ ho,ho=(look (sh i) (q:Int)).isSome:=⟨_,rfl⟩
    have hHas:=fun y (hy:Below x3.heap.size x3 y) => hide (hasS_any (HPX.far (far_below (E:=fun _ => False) hy) (fun _ _ h => h)).ks.blk (HPX.ks.am i hi) ((HPX.far (far_below (E:=fun _ => False) hy) (fun _ _ h => h)).ks.shs i hi) (HPX.ks.are i hi) (q:Int))
    rw [← hho] at hHas hix
    have hPut:=fun z (hz:Below x3.heap.size x3 z) => hide (putS_any ((HPX.far (far_below (E:=fun _ => False) hz) (fun _ _ h => h)).shAt hi) hsm q b)
    have hgx:=(unhide HX).lt
    have HPX2:=hide HPX
    have HSM:=hide (And.intro hsort (And.intro hix hho))
    have HSK:=hide hsk
    clear HPX hho hix hsort hsm hsk
    go_upto_region 5 with fail
    refine wp_region_frame (by kernel_rfl)
     [fun v _ => v = .int .i64 d,fun v _ => v = .bool true,fun v _ => v = .bool true,fun v _ => v = .int .i64 d,fun v _ => v = .bool true,fun v _ => v = .bool true,fun v _ => v = .bool true,
      fun v _ => v = .pointer (some ⟨p,2+i * 3,none⟩),fun v _ => v = .pointer (some ⟨p,2+i * 3,none⟩),fun v _ => v = .pointer (some ⟨p,2+i * 3+1,none⟩),fun v _ => v = .pointer (some ⟨w.heap.size,3,none⟩),fun v _ => v = .int .i64 q,fun v _ => v = .bool ho,fun v _ => v = .bool (!ho),fun v _ => v = .bool (!ho),fun v _ => v = .bool (!ho)]
     [[(6,none)],[(32,some 0)],[(33,some 1)],[(6,none),(34,some 2)],[(35,some 3),(34,some 2)],[(34,some 2),(36,some 4)],[(37,some 5)],[(5,none),(38,some 6)],[(39,some 7),(38,some 6)],[(40,some 8),(38,some 6)],[(3,none),(38,some 6)],[(42,some 10),(38,some 6)],[(41,some 9),(43,some 11),(38,some 6)],[(44,some 12),(38,some 6)],[(38,some 6),(45,some 13)],[(46,some 14)]] [some 32,some 33,some 34,some 35,some 36,some 37,some 38,some 39,some 40,some 41,some 42,some 43,some 44,some 45,some 46,some 31] [false,false,false,false,false,false,false,false,false,false,false,false,false,false,false,false,false,false,false,false,false,false,false,false,false,false,false,false,false,false,false,true,true,true,true,true,true,true,true,true,true,true,true,true,true,true,true,false,false,false,false,false,false,false,false,false]
     (by kernel_rfl) (by kernel_rfl) (by kernel_rfl) (by kernel_rfl) ?_ ?_ ?_
    ·repeat' (first | exact stable_eq _ | exact trivial | apply And.intro)
    ·refine ⟨?_,?_,?_,?_,?_,?_,?_,?_,?_,?_,?_,?_,?_,?_,?_,?_,trivial⟩
     all_goals
      intro a' z hbz hf
      have z3:=(hbz.cell (p:=⟨w.heap.size,3,none⟩) hgx).trans y3
      have HZ:=hide (unhide (hHas z hbz))
      clear hbz hHas hPut
      simp only [PlanFacts,List.getD_cons_zero,List.getD_cons_succ,Array.getD_eq_getD_getElem?] at hf
      try simp at hf
      try (have hg:a'.tmps[34]? = some (.bool true):=tmpB (by first | exact hf | exact hf.1 | exact hf.2 | exact hf.2.2))
      try (have hg2:a'.tmps[38]? = some (.bool true):=tmpB (by first | exact hf | exact hf.1 | exact hf.2 | exact hf.2.2))
      try go_simp
      try simp only [hg,if_true]
      try simp only [hg2,if_true]
      try go_simp
      try exact Below.refl _ _
     all_goals first
      | exact ⟨rfl,Below.refl _ _⟩
      | exact ⟨_,rfl,Below.refl _ _,rfl⟩
      | (refine (unhide HZ).mono ?_;rintro e x' ⟨rfl,hb⟩;exact ⟨rfl,hb⟩)
      | (refine (unhide HZ).mono ?_;rintro e x' ⟨rfl,hb⟩;exact ⟨_,rfl,hb,rfl⟩)
      | skip
    ·intro f z hbz hwd
     simp only [AllWords] at hwd
     have h15:=hwd.2.2.2.2.2.2.2.2.2.2.2.2.2.2.2.1
     clear hwd
     simp only [mergeT,h15]
     generalize f 32=x32
     generalize f 33=x33
     generalize f 34=x34
     generalize f 35=x35
     generalize f 36=x36
     generalize f 37=x37
     generalize f 38=x38
     generalize f 39=x39
     generalize f 40=x40
     generalize f 41=x41
     generalize f 42=x42
     generalize f 43=x43
     generalize f 44=x44
     generalize f 45=x45
     generalize f 46=x46
     have z3:=(hbz.cell (p:=⟨w.heap.size,3,none⟩) hgx).trans y3
     have z4:=(hbz.cell (p:=⟨w.heap.size,4,none⟩) hgx).trans y4
     have HBZ:=hide hbz
     have hPz:=unhide (hPut z hbz)
     cases ho
     ·have hhold:holdIt a i q b = { a with held:=a.held ++ [(i,q,b)] }:=by
       obtain ⟨e1,e2,_⟩:=unhide HD
       have hix:=(unhide HSM).2.1
       rw [holdIt,if_pos ⟨by omega,by omega,by cases h:a.ix i q with | none => rfl | some v => rw [h] at hix;cases hix⟩]
      have hixn:a.ix i q=none:=by
       have hix:=(unhide HSM).2.1
       cases h:a.ix i q with | none => rfl | some v => rw [h] at hix;cases hix
      have HHO:=hide (And.intro hhold hixn)
      have HPZ:=fun y (hy:Below z.heap.size z y) => hide (unhide (hPut y (hbz.trans (hy.mono hbz.size))))
      simp only [recS] at HPZ
      have hgz:w.heap.size < z.heap.size:=Nat.lt_of_lt_of_le hgx hbz.size
      clear hbz hPz hhold hixn hHas hPut y2 y3 y4
      go_upto_region 6 with fail
      refine wp_region_last (by kernel_rfl)
       [fun v _ => v = .pointer (some ⟨p,2+i * 3,none⟩),fun v _ => v = .pointer (some ⟨p,2+i * 3,none⟩),fun v _ => v = .pointer (some ⟨p,2+i * 3+1,none⟩),fun v _ => v = .pointer (some ⟨w.heap.size,3,none⟩),fun v _ => v = .int .i64 q,fun v _ => v = .pointer (some ⟨w.heap.size,4,none⟩),fun v _ => v = .string b,fun v _ => v = .agg #[.string b],fun _ _ => True]
       [[(5,none)],[(47,some 0)],[(48,some 1)],[(3,none)],[(50,some 3)],[(3,none)],[(52,some 5)],[(53,some 6)],[(49,some 2),(51,some 4),(54,some 7)]] [some 47,some 48,some 49,some 50,some 51,some 52,some 53,some 54,some 55] [false,false,false,false,false,false,false,false,false,false,false,false,false,false,false,false,false,false,false,false,false,false,false,false,false,false,false,false,false,false,false,false,false,false,false,false,false,false,false,false,false,false,false,false,false,false,false,true,true,true,true,true,true,true,true,true]
       8 _ rfl rfl (by kernel_rfl) (by kernel_rfl) (by kernel_rfl) (by kernel_rfl) (by kernel_rfl) (by kernel_rfl) ?_ ?_ ?_
      ·repeat' (first | exact stable_eq _ | exact stable_true | exact trivial | apply And.intro)
      ·refine ⟨?_,?_,?_,?_,?_,?_,?_,?_,trivial⟩
       all_goals
        intro a' y hb hf
        have y3:=(hb.cell (p:=⟨w.heap.size,3,none⟩) hgz).trans z3
        have y4:=(hb.cell (p:=⟨w.heap.size,4,none⟩) hgz).trans z4
        clear hb
        simp only [PlanFacts,List.getD_cons_zero,List.getD_cons_succ,Array.getD_eq_getD_getElem?] at hf
        try simp at hf
        go_simp
        try exact ⟨_,rfl,Below.refl _ _,rfl⟩
        try exact Below.refl _ _
      ·intro f2 y hby hwd
       simp only [AllWords,List.take] at hwd
       have g2:=hwd.2.2.1
       have g4:=hwd.2.2.2.2.1
       have g7:=hwd.2.2.2.2.2.2.2.1
       clear hwd
       have HPY:=hide (unhide (HPZ y hby))
       have HBY:=hide hby
       clear hby
       simp only [mergeT,g2,g4,g7]
       generalize f2 47=x47
       generalize f2 48=x48
       generalize f2 50=x50
       generalize f2 52=x52
       generalize f2 53=x53
       go_simp
       refine (unhide HPY).mono ?_
       rintro r u ⟨rfl,hst⟩
       have HST:=hide hst
       clear hst
       go_wp2
       go_ret
       refine ⟨0,rfl,?_⟩
       obtain ⟨hhold,hixn⟩:=unhide HHO
       rw [unhide HSK,hhold,unhide HCM]
       have hb1:Below w.heap.size w y:=(unhide HX).bel.trans (((unhide HBZ).trans ((unhide HBY).mono (unhide HBZ).size)).mono (unhide HX).bel.size)
       have hb2:Below x3.heap.size x3 y:=(unhide HBZ).trans ((unhide HBY).mono (unhide HBZ).size)
       have HPy:=(unhide HPX2).far (far_below (E:=fun _ => False) hb2) (fun _ _ h => h)
       refine skOut_same (SkIs2.behind ⟨_,st,pkStep_sh HPy hi (unhide HST) ?_,hs,onSh_hold O i q b hi hixn⟩ hb1)
       intro x hx
       rcases mem_putL hx with rfl | hx
       ·exact ⟨b,rfl⟩
       ·exact HPy.ks.are i hi x hx
     ·have hhold:holdIt a i q b=a:=by
       have hix:=(unhide HSM).2.1
       rw [holdIt,if_neg (fun h => by rw [h.2.2] at hix;cases hix)]
      have HHO:=hide hhold
      clear hbz hPz hhold hHas hPut
      go_wp2
      go_ret
      exact ⟨0,rfl,by rw [unhide HSK,unhide HHO,unhide HCM];exact skOut_same ((unhide hstay).below (unhide HBZ))⟩
   ·have hhold:holdIt a i q b=a:=by
     obtain ⟨e1,e2,_⟩:=unhide HD
     rw [holdIt,if_neg (fun h => by omega)]
    rw [hhold] at hsk
    have HNO:=hide hsk
    clear HPX hhold hsk
    go_upto_region 5 with fail
    go_quiet (fail)
    go_wp2
    go_ret
    exact ⟨0,rfl,by rw [unhide HNO,unhide HCM];exact skOut_same ((unhide hstay).below (below_drewN (Below.refl _ _) _))⟩
  ·have hhold:holdIt a i q b=a:=by
    obtain ⟨e1,e2,_⟩:=unhide HD
    rw [holdIt,if_neg (fun h => by omega)]
   rw [hhold] at hsk
   have HNO:=hide hsk
   clear HPX hhold hsk
   go_upto_region 5 with fail
   go_quiet (fail)
   go_wp2
   go_ret
   exact ⟨0,rfl,by rw [unhide HNO,unhide HCM];exact skOut_same ((unhide hstay).below (below_drewN (Below.refl _ _) _))⟩
end Go.Proofs.YtamafdcnbcoegabGreat
namespace Go.Proofs.YtamafdcnbcoegabGreat
open Go.RowKit
def hiW (a:Mod.Sk) (e:Nat):Nat:=if a.epoch < e then 1 else 0
set_option maxRecDepth 100000 in
set_option maxHeartbeats 4000000 in
theorem begin_gen {op ct n:Nat} {w:World} {p:Nat} {a:Mod.Sk} {sh:Nat→List (Nat × Value)} {st:Mod.Stv} {c:Sv} (H:PkAt w p a.epoch a.logs sh st c) (hs:Alv op ct n st a.epoch a.logs) (hct:ct+1000 < 18446744073709551616) (O:OnSh a.held sh) (e:Nat) (he:a.epoch ≤ e) (hem:e ≤ 2147483647) :
  Calls Tryz.prog 132 #[ptrTo p,.int .i64 e] w fun r w' => ∃ v,r = .returned (.int .i64 v)∧SkOut op ct n w w' p a (helloIt a e) 0 [] (hiW a e) c v:=by
 have c1:w.cell? ⟨p,1,none⟩=some (.int .i64 a.epoch):=by rw [blk_cell H.ks.blk,H.ks.a1]
 by_cases heq:e=a.epoch
 ·subst heq
  have HF:=hide (skIs2_refl H hs O)
  rw [helloIt_same,show hiW a a.epoch=0 by unfold hiW;rw [if_neg (by omega)]]
  have hb:((a.epoch:Int) == (a.epoch:Int))=true:=by simp
  clear H
  unfold ptrTo
  go_enter Tryz.func132,Tryz.ntmps132
  go_wp2
  go_ret
  exact ⟨0,rfl,skOut_same (unhide HF)⟩
 rw [show hiW a e=1 by unfold hiW;rw [if_pos (by omega)]]
 obtain ⟨ee,hee⟩:∃ ee,ee=(st.putNumbers e 0 0).1:=⟨_,rfl⟩
 have hEp:helloIt a e = { a with epoch:=e,held:=[] }:=by unfold helloIt helloHeld;rw [if_pos (by omega)]
 rw [hEp]
 have hWN:=fun y (hy:StAt y c.s c.dp st c.dlv c.duv) => hide (writeNumbers_any y c.s c.dp st c.dlv c.duv hy e 0 0 (by omega) (by omega) (by omega))
 obtain ⟨st2,hst⟩:∃ st2,st2=(st.putNumbers e 0 0).2:=⟨_,rfl⟩
 rw [← hee,← hst] at hWN
 have hres:(n ≠ 1∧ee=0∧Alv op (ct+1) (n - 1) st2 e a.logs) ∨ (n=1∧ee=4∧Ded op st2 a.epoch a.logs):=by
  by_cases h1:n=1
  ·subst h1
   have:=ded_num hs e 0 0
   rw [← hee,← hst] at this
   exact .inr ⟨rfl,this⟩
  ·have:=alv_num hs (by omega) h1 hem
   rw [← hee,← hst] at this
   exact .inl ⟨h1,this⟩
 have hlen2:st2.dk.bytes.length=7808:=by
  rw [hst]
  unfold Mod.Stv.putNumbers Mod.Dk.put
  simp only
  split
  ·exact H.len
  ·split
   ·exact H.len
   ·simp only
    have:=H.stt.hd
    rw [Mod.length_setSec (Mod.length_sealB _ _ (by rw [Mod.length_headIn];omega)) (by rw [H.len];omega)]
    exact H.len
 have hne:((e:Int) == (a.epoch:Int))=false:=by simp;omega
 have hpl:=lt_of_block H.ks.blk
 have HH:=hide H
 have hNO:=fun y => hide (numbersOf_any e y)
 have HRS:=hide hres
 obtain ⟨ep,hep⟩:∃ ep,ep=a.epoch:=⟨_,rfl⟩
 have HEE:=hide hep
 rw [← hep] at c1 hne HH
 clear H hst hee hres hEp hep
 unfold ptrTo at *
 go_enter Tryz.func132,Tryz.ntmps132
 go_upto_region 3 with fail
 refine wp_region_foot (by kernel_rfl)
  [fun v _ => v = .pointer (some ⟨p,0,none⟩),fun v _ => v = .pointer (some ⟨p,0,none⟩),fun v _ => v = .pointer (some ⟨p,0,none⟩),fun v _ => v = .pointer (some ⟨c.s,0,none⟩),fun v _ => v = .int .i64 e,fun v _ => v = .agg #[.int .i64 e,.int .i64 0,.int .i64 0],
   fun v y => v = .int .i64 ee∧∃ uv',StAt y c.s c.dp st2 c.dlv uv' ∧ Loc w c.duv uv',fun v _ => v = .int .i64 ee]
  [[(0,none)],[(13,some 0)],[(14,some 1)],[(15,some 2)],[(1,none)],[(17,some 4)],[(16,some 3),(18,some 5)],[(19,some 6)]] [some 13,some 14,some 15,some 16,some 17,some 18,some 19,some 5] [false,false,false,false,false,true,false,false,false,false,false,false,false,true,true,true,true,true,true,true,false,false,false,false,false,false,false,false,false,false,false,false,false,false,false,false,false,false]
  [(6,StU c.s c.dp c.dlv c.duv)]
  (by kernel_rfl) (by kernel_rfl) (by kernel_rfl) (by kernel_rfl) (by kernel_rfl) ?_ ?_ ?_ ?_
 ·repeat' (first | exact stable_eq _ | exact (fun _ _ _ h hb => ⟨h.1,h.2.imp fun _ h => ⟨h.1.far (far_below (E:=fun _ => False) hb) (fun _ _ h => h),h.2⟩⟩) | exact trivial | apply And.intro)
 ·repeat' (first | exact trivial | exact .inl rfl | exact .inr (.inr (stableF_eq _ _)) | apply And.intro)
 ·refine ⟨?_,?_,?_,?_,?_,?_,?_,?_,trivial⟩
  all_goals
   intro a' z hb hf
   simp only [PlanFacts,List.getD_cons_zero,List.getD_cons_succ,Array.getD_eq_getD_getElem?] at hf
   try simp at hf
  iterate 3
   ·clear hb
    go_simp
    exact ⟨_,rfl,Far.refl _ _,rfl⟩
  ·have z0:z.cell? ⟨p,0,none⟩=some (.pointer (some ⟨c.s,0,none⟩)):=by
    have:=hb.blk (unhide HH).ks.blk (footBut_no (by intro q hq;simp at hq;subst hq;exact fun h => (unhide HH).sep p (.inl rfl) h))
    rw [blk_cell this,(unhide HH).ks.a0]
    rfl
   clear hb
   go_simp
   exact ⟨_,rfl,Far.refl _ _,rfl⟩
  ·clear hb
   go_simp
   exact ⟨_,rfl,Far.refl _ _,rfl⟩
  ·have HC:=hide (unhide (hNO z))
   clear hb
   go_simp
   refine (unhide HC).mono ?_
   rintro r z2 ⟨rfl,hb2⟩
   exact ⟨_,rfl,far_below hb2,rfl⟩
  ·have hbz:Below w.heap.size w z:=hb.below (Nat.le_refl _) (by
    rintro j _ ⟨q,hq,g1,g2,g3⟩
    simp at hq
    subst hq
    exact g1 rfl)
   have HC:=hide (unhide (hWN z ((unhide HH).stt.far (far_below (E:=fun _ => False) hbz) (fun _ _ h => h))))
   have hzz:=hbz.size
   clear hb hbz
   go_simp
   refine (unhide HC).mono ?_
   rintro r z2 ⟨rfl,uv',k1,k2,k3⟩
   exact ⟨_,rfl,footOf_of (.head _) k3,rfl,uv',k1,loc_less k2 hzz⟩
  ·clear hb
   obtain ⟨hf,_⟩:=hf
   go_simp
   exact ⟨_,rfl,Far.refl _ _,rfl⟩
 ·intro f z hF hwd
  obtain ⟨_,uv',k1,k2⟩:=hwd.2.2.2.2.2.2.1
  have h7:=hwd.2.2.2.2.2.2.2.1
  have hF:Far (StU c.s c.dp c.dlv c.duv) w z:=hF.mono (fun k _ h => by
   obtain ⟨q,hq,h⟩:=h
   simp at hq
   subst hq
   exact h)
  have hPK:PkAt z p ep a.logs sh st2 { c with duv:=uv' }:=⟨(unhide HH).ks.far hF (fun k hk h => (unhide HH).sep k hk h),k1,(unhide HH).rl.far hF (fun g hg h => ((unhide HH).sepr g hg).2 h),hlen2⟩
  have hST:PkStep w z p ep a.logs sh st2 c:=by
   refine ⟨_,hPK,hF.mono (fun k _ h => .inr (.inl h)),?_,rfl,rfl⟩
   have hwz:=hF.size
   rintro k (hk | (rfl | rfl | hk | hk) | hk)
   ·exact .inl (.inl hk)
   ·exact .inl (.inr (.inl (.inl rfl)))
   ·exact .inl (.inr (.inl (.inr (.inl rfl))))
   ·exact .inl (.inr (.inl (.inr (.inr (.inl hk)))))
   ·rcases k2 with h | h | ⟨g,h,hg⟩
    ·rw [h] at hk;cases hk
    ·exact .inl (.inr (.inl (.inr (.inr (.inr (by rw [← h];exact hk))))))
    ·rw [h] at hk;cases hk;exact .inr hg
   ·exact .inl (.inr (.inr hk))
  have HST:=hide hST
  have yf:z.frozen? ⟨p,1,none⟩=false:=blk_free (i:=1) hPK.ks.blk
  have yc:z.cell? ⟨p,1,none⟩=some (.int .i64 ep):=by rw [blk_cell hPK.ks.blk];exact hPK.ks.a1
  clear hwd hF k1 k2 hPK hST
  simp only [mergeT,h7]
  generalize f 13=x13
  generalize f 14=x14
  generalize f 15=x15
  generalize f 16=x16
  generalize f 17=x17
  generalize f 18=x18
  generalize f 19=x19
  rcases unhide HRS with ⟨hn1,rfl,hal⟩ | ⟨hn1,rfl,hde⟩
  rotate_left
  ·have HDE:=hide (And.intro hn1 hde)
   clear hn1 hde HRS yf yc
   go_wp2
   go_ret
   refine ⟨4,rfl,.inr ⟨rfl,by rw [(unhide HDE).1];omega,by rw [(unhide HDE).1];omega,?_⟩⟩
   rw [List.take_nil,grown_zero,← unhide HEE]
   exact ⟨sh,st2,unhide HST,by rw [unhide HEE];exact (unhide HDE).2⟩
  have HAL:=hide (And.intro hn1 hal)
  have HEP:=hide ((unhide HST).trans (fun c' h' => pkStep_ep h' e hem))
  clear hn1 hal HRS HST
  go_upto_region 7 with fail
  refine wp_world (fun y => PkStep w y p e a.logs sh st2 c) (unhide HEP) ?_
  clear HEP yf yc
  intro y hY
  have HY:=hide hY
  clear hY
  go_wp2
  go_loopw [6,27] (fun _ i wr => ∃ j:Nat,j ≤ 3∧i = .int .i64 j∧PkStep w wr p e a.logs (fun t => if t < j then [] else sh t) st2 c) (fun _ i _ => 3 - (intOf i).toNat)
  case atStart => exact ⟨0,by omega,rfl,by simpa using unhide HY⟩
  case round =>
   obtain ⟨j,hj,rfl,hk⟩:=hrel
   clear HY
   by_cases hlt:j < 3
   ·obtain ⟨c1',K1,F1,N1,e1,e2⟩:=id hk
    have HCL:=hide (clearS_any (K1.shAt hlt))
    have hj0:(0:Int) ≤ (j:Int):=by omega
    have hj3:(j:Int) < 3:=by omega
    have HK:=hide hk
    have HK1:=hide K1
    have HFN:=hide (And.intro F1 (And.intro N1 (And.intro e1 e2)))
    clear hk K1 F1 N1 e1 e2
    go_wp2_with (go_at_call 177;refine (unhide HCL).mono ?_;rintro r y ⟨rfl,hst⟩)
    have hq:=pkStep_sh (unhide HK1) hlt hst (by intro x hx;cases hx)
    obtain ⟨F1,N1,e1,e2⟩:=unhide HFN
    have h2:PkStep w y p e a.logs (fun t => if t < j+1 then [] else sh t) st2 c:=by
     obtain ⟨c2,q1,q2,q3,q4,q5⟩:=hq
     have hsz:=F1.size
     have hfun:(fun t => if t=j then ([]:List (Nat × Value)) else (fun t => if t < j then [] else sh t) t)=fun t => if t < j+1 then [] else sh t:=by
      funext t
      by_cases h1:t=j
      ·simp [h1]
      ·by_cases h2:t < j
       ·simp [h1,h2,show t < j+1 by omega]
       ·simp [h1,h2,show ¬ t < j+1 by omega]
     rw [hfun] at q1
     refine ⟨c2,q1,F1.trans q2 (fun k hk hu => (N1 k hu).elim id (fun h => by omega)),fun k hk => ?_,q4.trans e1,q5.trans e2⟩
     rcases q3 k hk with h | h
     ·exact N1 k h
     ·exact .inr (Nat.le_trans hsz h)
    exact ⟨⟨j+1,by omega,by go_num,h2⟩,by simp [intOf];omega⟩
   ·obtain rfl:j=3:=by omega
    go_wp2
    go_ret
    exact ⟨0,rfl,.inl ⟨rfl,by have:=(unhide HAL).1;omega,_,st2,hk,(unhide HAL).2,onSh_cleared⟩⟩
end Go.Proofs.YtamafdcnbcoegabGreat
namespace Go.Proofs.YtamafdcnbcoegabGreat
open Go.RowKit
section
variable {op ct n:Nat} {w:World} {p:Nat} {a:Mod.Sk} {sh:Nat→List (Nat × Value)} {st:Mod.Stv} {c:Sv}
theorem take_ok (H:PkAt w p a.epoch a.logs sh st c) (hs:Alv op ct n st a.epoch a.logs) (hct:ct+1000 < 18446744073709551616) (G:SkGood a) (M:SkMore a) (O:OnSh a.held sh) (e:Int) (i q:Nat) (hi:i < 3) (hq:q ≤ 2147483647) (b:ByteArray) (hb:b.size ≤ 20) (hn:n=0 ∨ (a.commits 3 a.epoch i q b).length < n) :
  Calls Tryz.prog 135 #[ptrTo p,.agg #[.int .i64 3,.int .i64 e,.int .i64 i,.int .i64 q,.string b]] w fun r w' => r = .returned (.int .i64 0)∧SkIs2 op (ct+(a.commits 3 a.epoch i q b).length) (n - (a.commits 3 a.epoch i q b).length) w w' p (skAfter a 3 a.epoch i q b) c:=by
 refine (take_gen H hs hct G M O e i q hi hq b hb).mono ?_
 rintro r w' ⟨v,rfl,⟨rfl,_,h⟩ | ⟨_,h1,h2,_⟩⟩
 ·exact ⟨rfl,h⟩
 ·omega
theorem begin_ok (H:PkAt w p a.epoch a.logs sh st c) (hs:Alv op ct n st a.epoch a.logs) (hct:ct+1000 < 18446744073709551616) (O:OnSh a.held sh) (e:Nat) (he:a.epoch ≤ e) (hem:e ≤ 2147483647) (hn:n=0 ∨ hiW a e < n) :
  Calls Tryz.prog 132 #[ptrTo p,.int .i64 e] w fun r w' => r = .returned (.int .i64 0)∧SkIs2 op (ct+hiW a e) (n - hiW a e) w w' p (helloIt a e) c:=by
 refine (begin_gen H hs hct O e he hem).mono ?_
 rintro r w' ⟨v,rfl,⟨rfl,_,h⟩ | ⟨_,h1,h2,_⟩⟩
 ·exact ⟨rfl,h⟩
 ·omega
end
set_option maxRecDepth 100000 in
set_option maxHeartbeats 4000000 in
theorem answerData_ok {op ct n:Nat} {w:World} {p:Nat} {a:Mod.Sk} {sh:Nat→List (Nat × Value)} {st:Mod.Stv} {c:Sv} (H:PkAt w p a.epoch a.logs sh st c) (hs:Alv op ct n st a.epoch a.logs) (hct:ct+1000 < 18446744073709551616) (G:SkGood a) (M:SkMore a) (O:OnSh a.held sh) (i q:Nat) (hi:i < 3) (hq:q ≤ 2147483647) (b:ByteArray) (hb:b.size ≤ 20) (hnw:n=0 ∨ (a.commits 3 a.epoch i q b).length < n) :
  Calls Tryz.prog 88 #[ptrTo p,.agg #[.int .i64 3,.int .i64 a.epoch,.int .i64 i,.int .i64 q,.string b]] w fun r z =>
   r = .returned (.tuple #[.agg #[.int .i64 4,.int .i64 a.epoch,.int .i64 i,.int .i64 ((skAfter a 3 a.epoch i q b).logs i).length,.string (ackBody (skAfter a 3 a.epoch i q b) i ((skAfter a 3 a.epoch i q b).logs i).length)],.int .i64 0])∧SkIs2 op (ct+(a.commits 3 a.epoch i q b).length) (n - (a.commits 3 a.epoch i q b).length) w z p (skAfter a 3 a.epoch i q b) c:=by
 obtain ⟨nn,hnn⟩:∃ nn,nn=n - (a.commits 3 a.epoch i q b).length:=⟨_,rfl⟩
 obtain ⟨cc,hcc⟩:∃ cc,cc=ct+(a.commits 3 a.epoch i q b).length:=⟨_,rfl⟩
 have c1:w.cell? ⟨p,1,none⟩=some (.int .i64 a.epoch):=by rw [blk_cell H.ks.blk,H.ks.a1]
 have hpl:=lt_of_block H.ks.blk
 have hTK:=fun y (hy:Below w.heap.size w y) => hide (take_ok (H.far (far_below (E:=fun _ => False) hy) (fun _ _ h => h)) hs hct G M O a.epoch i q hi hq b hb hnw)
 rw [← hnn,← hcc] at hTK ⊢
 clear hnn hcc hnw
 have hep2:(skAfter a 3 a.epoch i q b).epoch=a.epoch:=by
  unfold skAfter
  split
  ·exact holdIt_epoch _ _ _ _
  ·rfl
 obtain ⟨a2,ha2⟩:∃ a2,a2=skAfter a 3 a.epoch i q b:=⟨_,rfl⟩
 rw [← ha2] at hTK hep2 ⊢
 obtain ⟨ep,hep⟩:∃ ep,ep=a.epoch:=⟨_,rfl⟩
 rw [← hep] at c1 hTK hep2 ⊢
 have hneb:((ep:Int) != (ep:Int))=false:=by simp
 have hUl:=hide H.lt
 have DD:=hide (rsAt_new w #[.int .i64 3,.int .i64 ep,.int .i64 i,.int .i64 q,.string b] zFr)
 have hi0:(0:Int) ≤ (i:Int):=by omega
 have hi3:(i:Int) < 3:=by omega
 have HEP:=hide hep2
 clear hs hct
 clear n
 obtain ⟨n,hn⟩:∃ n,n=(a2.logs i).length:=⟨_,rfl⟩
 rw [← hn]
 obtain ⟨bd,hbd⟩:∃ bd,bd=ackBody a2 i n:=⟨_,rfl⟩
 rw [← hbd]
 have HNB:=hide (And.intro hn hbd)
 clear H hep ha2 hep2 hn hbd
 unfold ptrTo at *
 go_enter Tryz.func88,Tryz.ntmps88
 go_upto_region 1 with fail
 refine wp_world (RsAt w #[.int .i64 3,.int .i64 ep,.int .i64 i,.int .i64 q,.string b] zFr) (unhide DD) ?_
 clear DD
 intro x X
 have y1:=blk_cell (i:=1) X.box
 simp at y1
 have z1:=(X.bel.cell (p:=⟨p,1,none⟩) hpl).trans c1
 have HX:=hide X
 clear X
 go_quiet (fail)
 go_upto_region 3 with fail
 refine wp_world (RsAt w #[.int .i64 3,.int .i64 ep,.int .i64 i,.int .i64 q,.string b] zFr) ((unhide HX).drewN _) ?_
 clear HX y1 z1
 intro x2 X
 have y0:=blk_cell (i:=0) X.box
 have y1:=blk_cell (i:=1) X.box
 have y2:=blk_cell (i:=2) X.box
 have y3:=blk_cell (i:=3) X.box
 have y4:=blk_cell (i:=4) X.box
 simp at y0 y1 y2 y3 y4
 have hT:=hide (unhide (hTK x2 X.bel))
 have HX:=hide X
 clear X hTK
 go_upto_region 6 with (go_at_call 135;refine (unhide hT).mono ?_;rintro r y ⟨rfl,hk⟩)
 obtain ⟨sh2,st2,⟨c2,K2,F2,N2,t1,t2⟩,hs2,O2⟩:=hk
 have hnE:∀ k,w.heap.size ≤ k→¬ PkU p c k:=fun k hk h => by have:=(unhide hUl) k h;omega
 have hgx:=(unhide HX).lt
 refine wp_world (fun z => PkAt z p a2.epoch a2.logs sh2 st2 c2∧Far (PkU p c) x2 z∧z.heap[w.heap.size]? = some (.cells #[.int .i64 3,.int .i64 ep,.int .i64 i,.int .i64 q,.string b] 63 (0,0))∧z.heap[w.heap.size+1]? = some (.cells zFr 63 (0,0))) ⟨K2,F2,F2.blk (unhide HX).box (hnE _ (Nat.le_refl _)),F2.blk (unhide HX).res (hnE _ (by omega))⟩ ?_
 clear y0 y1 y2 y3 y4 K2 F2 hT
 rintro x3 ⟨K3,F3,hbx,hrx⟩
 have y2:x3.cell? ⟨w.heap.size,2,none⟩=some (.int .i64 i):=blk_cell (i:=2) hbx
 have HK3:=hide K3
 have HF3:=hide F3
 have HBX:=hide (And.intro hbx hrx)
 have HN2:=hide (And.intro N2 (And.intro t1 (And.intro t2 (And.intro hs2 O2))))
 clear K3 F3 hbx hrx N2 t1 t2 hs2 O2
 go_quiet (fail)
 go_upto_region 7 with fail
 refine wp_world (fun z => PkAt z p a2.epoch a2.logs sh2 st2 c2∧Far (PkU p c) x2 z∧z.heap[w.heap.size]? = some (.cells #[.int .i64 3,.int .i64 ep,.int .i64 i,.int .i64 q,.string b] 63 (0,0))∧z.heap[w.heap.size+1]? = some (.cells zFr 63 (0,0))) ⟨(unhide HK3).far (far_drewN (fun _ => False) _ _) (fun _ _ h => h),(unhide HF3).trans (far_drewN (fun _ => False) _ _) (fun _ _ h => h.elim),(unhide HBX).1,(unhide HBX).2⟩ ?_
 clear y2 HK3 HF3 HBX
 rintro x4 ⟨K4,F4,hbx,hrx⟩
 obtain ⟨ad,cap,_,clog⟩:=K4.ks.logc hi
 have hll:=K4.ks.loglen hi
 obtain ⟨hn,hbd⟩:=unhide HNB
 rw [← hn] at clog hll
 have hO2:=(unhide HN2).2.2.2.2
 have hAB:=fun z (hz:Below x4.heap.size x4 z) => hide (ackBody_any ((K4.far (far_below (E:=fun _ => False) hz) (fun _ _ h => h)).shAt hi) (K4.ks.are i hi) n (by omega))
 rw [ack_body_same hO2 K4.ks.are hi n,← hbd] at hAB
 have hLS:=fun z (hz:Below x4.heap.size x4 z) => hide (sinkLast_any z p (2+i * 3) n cap ad ((hz.cell (p:=⟨p,2+i * 3,none⟩) (lt_of_block K4.ks.blk)).trans clog))
 have hpx:=lt_of_block K4.ks.blk
 have c14:x4.cell? ⟨p,1,none⟩=some (.int .i64 ep):=by rw [blk_cell K4.ks.blk,K4.ks.a1,unhide HEP]
 have y2:x4.cell? ⟨w.heap.size,2,none⟩=some (.int .i64 i):=blk_cell (i:=2) hbx
 have hgb:=lt_of_block hbx
 have HK4:=hide K4
 have HF4:=hide F4
 have HBX:=hide hrx
 clear K4 F4 hbx hrx hn hbd hO2
 have hnp:p ≠ w.heap.size+1:=by omega
 refine wp_region_foot (by kernel_rfl)
  [fun v _ => v = .pointer (some ⟨p,0,none⟩),fun v _ => v = .pointer (some ⟨p,0,none⟩),fun v _ => v = .pointer (some ⟨p,1,none⟩),fun v _ => v = .int .i64 ep,fun v _ => v = .pointer (some ⟨w.heap.size,2,none⟩),fun v _ => v = .int .i64 i,
   fun v _ => v = .pointer (some ⟨p,2+i * 3,none⟩),fun v _ => v = .int .i64 n,fun v _ => v = .pointer (some ⟨p,2+i * 3,none⟩),fun v _ => v = .int .i64 n,fun v _ => v = .pointer (some ⟨p,2+i * 3,none⟩),fun v _ => v = .pointer (some ⟨p,2+i * 3,none⟩),fun v _ => v = .pointer (some ⟨p,2+i * 3+1,none⟩),
   fun v _ => v = .func (.func 137) #[.pointer (some ⟨p,2+i * 3+1,none⟩)] #[],fun v _ => v = .string bd,fun v _ => v = .agg #[.int .i64 4,.int .i64 ep,.int .i64 i,.int .i64 n,.string bd],
   fun _ z => z.heap[w.heap.size+1]? = some (.cells #[.int .i64 4,.int .i64 ep,.int .i64 i,.int .i64 n,.string bd] 63 (0,0)),fun v _ => v = .int .i64 0]
  [[(0,none)],[(36,some 0)],[(37,some 1)],[(38,some 2)],[(3,none)],[(40,some 4)],[(7,none)],[(42,some 6)],[(7,none)],[(44,some 8)],[(7,none)],[(46,some 10)],[(47,some 11)],[(48,some 12)],[(45,some 9),(49,some 13)],[(39,some 3),(41,some 5),(43,some 7),(50,some 14)],[(4,none),(51,some 15)],[]] [some 36,some 37,some 38,some 39,some 40,some 41,some 42,some 43,some 44,some 45,some 46,some 47,some 48,some 49,some 50,some 51,none,some 5] [false,false,false,false,false,true,false,false,false,false,false,false,false,false,false,false,false,false,false,false,false,false,false,false,false,false,false,false,false,false,false,false,false,false,false,false,true,true,true,true,true,true,true,true,true,true,true,true,true,true,true,true]
  [(16,fun k => k=w.heap.size+1)]
  (by kernel_rfl) (by kernel_rfl) (by kernel_rfl) (by kernel_rfl) (by kernel_rfl) ?_ ?_ ?_ ?_
 ·repeat' (first | exact stable_eq _ | exact stable_blk _ _ | exact trivial | apply And.intro)
 ·repeat' (first | exact trivial | exact .inl rfl | exact .inr (.inr (stableF_eq _ _)) | apply And.intro)
 ·refine ⟨?_,?_,?_,?_,?_,?_,?_,?_,?_,?_,?_,?_,?_,?_,?_,?_,?_,?_,trivial⟩
  case refine_17 =>
   intro a' z hb hf
   simp only [PlanFacts,List.getD_cons_zero,List.getD_cons_succ,Array.getD_eq_getD_getElem?] at hf
   try simp at hf
   have q0:=hb.blk (unhide HBX) (by
    rintro ⟨q,hq,g1,g2,g3⟩
    simp at hq
    subst hq
    exact g1 rfl)
   clear hb
   rw [if_pos (by rfl)]
   refine wp_store_row 63 (.tmp 4) (.tmp 51) rfl (w.heap.size+1) #[.int .i64 4,.int .i64 ep,.int .i64 i,.int .i64 n,.string bd] (by simp [Act.eval,hf]) (by simp [Act.eval,hf]) 63 _ q0 (by rw [size_frame];rfl) rfl (by rw [Array.all_eq_true_iff_forall_mem];intro u hu;simp at hu;rcases hu with rfl | rfl | rfl | rfl | rfl <;> rfl) ?_
   exact ⟨_,rfl,footOf_of (.head _) (far_setRow _ _ _),setRow_heap _ _ _ _ _ _ q0⟩
  case refine_18 =>
   intro a' z hb hf
   clear hb
   go_simp
   exact ⟨_,rfl,Far.refl _ _,rfl⟩
  all_goals
   intro a' z hb hf
   have hbz:Below x4.heap.size x4 z:=foot_below hb (by intro q hq;simp at hq;subst hq;show depB _ 16 _=true;decide +kernel)
   have z2:=(hbz.cell (p:=⟨w.heap.size,2,none⟩) hgb).trans y2
   have z1:=(hbz.cell (p:=⟨p,1,none⟩) hpx).trans c14
   have HA:=hide (unhide (hAB z hbz))
   have HL:=hide (unhide (hLS z hbz))
   clear hb hbz hAB hLS
   simp only [PlanFacts,List.getD_cons_zero,List.getD_cons_succ,Array.getD_eq_getD_getElem?] at hf
   try simp at hf
   go_simp
   first
    | exact ⟨_,rfl,Far.refl _ _,rfl⟩
    | (refine (unhide HL).mono ?_;rintro r z2 ⟨rfl,rfl⟩;exact ⟨_,rfl,Far.refl _ _,rfl⟩)
    | (refine (unhide HA).mono ?_;rintro r z2 ⟨rfl,hb2⟩;exact ⟨_,rfl,far_below hb2,rfl⟩)
    | skip
 ·intro f z hF hwd
  have h8:=hwd.2.2.2.2.2.2.2.2.2.2.2.2.2.2.2.2.1
  have h9:=hwd.2.2.2.2.2.2.2.2.2.2.2.2.2.2.2.2.2.1
  have q0:z.cell? ⟨w.heap.size+1,0,none⟩=some (.int .i64 4):=blk_cell (i:=0) h8
  have q1:z.cell? ⟨w.heap.size+1,1,none⟩=some (.int .i64 ep):=blk_cell (i:=1) h8
  have q2:z.cell? ⟨w.heap.size+1,2,none⟩=some (.int .i64 i):=blk_cell (i:=2) h8
  have q3:z.cell? ⟨w.heap.size+1,3,none⟩=some (.int .i64 n):=blk_cell (i:=3) h8
  have q4:z.cell? ⟨w.heap.size+1,4,none⟩=some (.string bd):=blk_cell (i:=4) h8
  have hF:Far (fun k => k=w.heap.size+1) x4 z:=hF.mono (fun k _ h => by
   obtain ⟨q,hq,h⟩:=h
   simp at hq
   subst hq
   exact h)
  have HFZ:=hide hF
  clear hwd hF h8
  simp only [mergeT,h9]
  generalize f 36=x36
  generalize f 37=x37
  generalize f 38=x38
  generalize f 39=x39
  generalize f 40=x40
  generalize f 41=x41
  generalize f 42=x42
  generalize f 43=x43
  generalize f 44=x44
  generalize f 45=x45
  generalize f 46=x46
  generalize f 47=x47
  generalize f 48=x48
  generalize f 49=x49
  generalize f 50=x50
  generalize f 51=x51
  go_simp
  go_wp2
  refine bodyPost_ret (v:=.tuple #[.agg #[.int .i64 4,.int .i64 ep,.int .i64 i,.int .i64 n,.string bd],.int .i64 0]) (by simp [results,Tryz.results88,go_sem,q0,q1,q2,q3,q4]) rfl ⟨rfl,?_⟩
  obtain ⟨N2,t1,t2,hs2,O2⟩:=unhide HN2
  have hxb:=(unhide HX).bel
  have hFz:=unhide HFZ
  have hres:¬ PkU p c2 (w.heap.size+1):=by
   have hc:=unhide HBX
   exact pk_not_cells (unhide HK4) hc (by decide) (by decide) (by decide) (by decide) (by decide) (by decide) (by decide) (by decide)
  refine ⟨sh2,st2,⟨c2,(unhide HK4).far hFz (fun k hk e => hres (by rw [← e];exact hk)),?_,fun k hk => (N2 k hk).imp id (fun h => Nat.le_trans hxb.size h),t1,t2⟩,hs2,O2⟩
  exact ((far_below (E:=PkU p c) hxb).trans (unhide HF4) (fun _ _ h => h)).trans hFz (fun k hk e => by omega)
set_option maxRecDepth 100000 in
set_option maxHeartbeats 4000000 in
theorem answerHello_ok {op ct n:Nat} {w:World} {p:Nat} {a:Mod.Sk} {sh:Nat→List (Nat × Value)} {st:Mod.Stv} {c:Sv} (H:PkAt w p a.epoch a.logs sh st c) (hs:Alv op ct n st a.epoch a.logs) (hct:ct+1000 < 18446744073709551616) (O:OnSh a.held sh) (e:Nat) (s q:Int) (b:ByteArray) (he:a.epoch ≤ e) (hem:e ≤ 2147483647) (hnw:n=0 ∨ hiW a e < n) :
  Calls Tryz.prog 87 #[ptrTo p,.agg #[.int .i64 1,.int .i64 e,.int .i64 s,.int .i64 q,.string b]] w fun r z =>
   r = .returned (.tuple #[.agg #[.int .i64 2,.int .i64 e,.int .i64 0,.int .i64 0,.string (welB a)],.int .i64 0])∧SkIs2 op (ct+hiW a e) (n - hiW a e) w z p (helloIt a e) c:=by
 obtain ⟨nn,hnn⟩:∃ nn,nn=n - hiW a e:=⟨_,rfl⟩
 obtain ⟨cc,hcc⟩:∃ cc,cc=ct+hiW a e:=⟨_,rfl⟩
 have c1:w.cell? ⟨p,1,none⟩=some (.int .i64 a.epoch):=by rw [blk_cell H.ks.blk,H.ks.a1]
 have hpl:=lt_of_block H.ks.blk
 have hBG:=fun y (hy:Below w.heap.size w y) => hide (begin_ok (H.far (far_below (E:=fun _ => False) hy) (fun _ _ h => h)) hs hct O e he hem hnw)
 rw [← hnn,← hcc] at hBG ⊢
 clear hnn hcc hnw hs hct
 clear n
 have hlg:(helloIt a e).logs=a.logs:=rfl
 have hepE:(helloIt a e).epoch=e:=rfl
 obtain ⟨a2,ha2⟩:∃ a2,a2=helloIt a e:=⟨_,rfl⟩
 rw [← ha2] at hBG hlg hepE ⊢
 have hwb:=wel_bytes (a.logs 0).length (a.logs 1).length (a.logs 2).length
 have hl0:=H.ks.loglen (i:=0) (by omega)
 have hl1:=H.ks.loglen (i:=1) (by omega)
 have hl2:=H.ks.loglen (i:=2) (by omega)
 obtain ⟨n0,hn0⟩:∃ n,n=(a.logs 0).length:=⟨_,rfl⟩
 obtain ⟨n1,hn1⟩:∃ n,n=(a.logs 1).length:=⟨_,rfl⟩
 obtain ⟨n2,hn2⟩:∃ n,n=(a.logs 2).length:=⟨_,rfl⟩
 obtain ⟨wel,hwel⟩:∃ v,v=welB a:=⟨_,rfl⟩
 have hwv:wel=le4S (a.logs 0).length ++ le4S (a.logs 1).length ++ le4S (a.logs 2).length:=hwel
 rw [← hwel]
 rw [← hn0,← hn1,← hn2] at hwv hwb
 rw [← hwv] at hwb
 rw [← hn0] at hl0
 rw [← hn1] at hl1
 rw [← hn2] at hl2
 have hWB:=fun y => hide (welcomeBody_any n0 n1 n2 (by omega) (by omega) (by omega) y)
 rw [hwb] at hWB
 have HNN:=hide (And.intro hn0 (And.intro hn1 (And.intro hn2 (And.intro hlg hepE))))
 obtain ⟨ep,hep⟩:∃ ep,ep=a.epoch:=⟨_,rfl⟩
 rw [← hep] at c1 he
 have hltI:¬ (e:Int) < (ep:Int):=by omega
 have hUl:=hide H.lt
 have DD:=hide (rsAt_new w #[.int .i64 1,.int .i64 e,.int .i64 s,.int .i64 q,.string b] zFr)
 clear H hep ha2 hlg hepE hn0 hn1 hn2 hwel hwv hwb
 unfold ptrTo at *
 go_enter Tryz.func87,Tryz.ntmps87
 go_upto_region 1 with fail
 refine wp_world (RsAt w #[.int .i64 1,.int .i64 e,.int .i64 s,.int .i64 q,.string b] zFr) (unhide DD) ?_
 clear DD
 intro x X
 have y1:=blk_cell (i:=1) X.box
 simp at y1
 have z1:=(X.bel.cell (p:=⟨p,1,none⟩) hpl).trans c1
 have HX:=hide X
 clear X
 go_quiet (fail)
 go_upto_region 3 with fail
 refine wp_world (RsAt w #[.int .i64 1,.int .i64 e,.int .i64 s,.int .i64 q,.string b] zFr) ((unhide HX).drewN _) ?_
 clear HX y1 z1
 intro x2 X
 have y1:=blk_cell (i:=1) X.box
 simp at y1
 have hT:=hide (unhide (hBG x2 X.bel))
 have HX:=hide X
 clear X hBG
 go_upto_region 6 with (go_at_call 132;refine (unhide hT).mono ?_;rintro r y ⟨rfl,hk⟩)
 obtain ⟨sh2,st2,⟨c2,K2,F2,N2,t1,t2⟩,hs2,O2⟩:=hk
 have hnE:∀ k,w.heap.size ≤ k→¬ PkU p c k:=fun k hk h => by have:=(unhide hUl) k h;omega
 have hgx:=(unhide HX).lt
 have hys:=F2.size
 obtain ⟨g7,hg7⟩:∃ g7,g7=y.heap.size:=⟨_,rfl⟩
 have HR2:=hide (F2.blk (unhide HX).res (hnE _ (by omega)))
 have HK2:=hide K2
 have HF2:=hide F2
 have HN2:=hide (And.intro N2 (And.intro t1 (And.intro t2 (And.intro hs2 O2))))
 clear hT K2 F2 N2 t1 t2 hs2 O2 y1
 go_upto_region 7 with fail
 rw [← hg7]
 refine wp_world (fun z => PkAt z p a2.epoch a2.logs sh2 st2 c2∧Far (PkU p c) x2 z∧z.heap[w.heap.size+1]? = some (.cells zFr 63 (0,0))∧z.heap[g7]? = some (.cells #[.int .i64 0,.int .i64 0,.int .i64 0] 35 (0,0))) ?_ ?_
 ·have hb:∀ o,Below y.heap.size y (y.alloc o):=fun o => (Below.refl _ _).alloc (Nat.le_refl _) o
  refine ⟨(unhide HK2).far (far_below (E:=fun _ => False) (hb _)) (fun _ _ h => h),(unhide HF2).trans (far_below (E:=fun _ => False) (hb _)) (fun _ _ h => h.elim),((hb _).block _ (by omega)).trans (unhide HR2),by rw [hg7];exact heap_alloc_new _ _⟩
 have hg7w:w.heap.size+1 < g7:=by omega
 have hx2g:x2.heap.size ≤ g7:=by omega
 clear HR2 HK2 HF2 hg7 hys
 rintro x3 ⟨K3,F3,hrx,hgx3⟩
 have HQ:=hide (And.intro K3 (And.intro F3 (And.intro hrx hgx3)))
 clear K3 F3 hrx hgx3
 go_wp2
 go_loopw [8,29] (fun _ i wr => ∃ j:Nat,j ≤ 3∧i = .int .i64 j∧PkAt wr p a2.epoch a2.logs sh2 st2 c2∧Far (PkU p c) x2 wr∧wr.heap[w.heap.size+1]? = some (.cells zFr 63 (0,0))∧wr.heap[g7]? = some (.cells #[.int .i64 (if 0 < j then n0 else 0:Nat),.int .i64 (if 1 < j then n1 else 0:Nat),.int .i64 (if 2 < j then n2 else 0:Nat)] 35 (0,0))) (fun _ i _ => 3 - (intOf i).toNat)
 case atStart =>
  obtain ⟨K3,F3,hrx,hgx3⟩:=unhide HQ
  exact ⟨0,by omega,rfl,K3,F3,hrx,by simpa using hgx3⟩
 case round =>
  obtain ⟨j,hj,rfl,K,F,hr,hg⟩:=hrel
  clear HQ
  have hngp:¬ PkU p c2 g7:=pk_not_cells K hg (by decide) (by decide) (by decide) (by decide) (by decide) (by decide) (by decide) (by decide)
  obtain ⟨ea,eb,ec,ed,ee⟩:=unhide HNN
  obtain ⟨ad0,cap0,_,c0⟩:=K.ks.logc (i:=0) (by omega)
  obtain ⟨ad1,cap1,_,c1'⟩:=K.ks.logc (i:=1) (by omega)
  obtain ⟨ad2,cap2,_,c2'⟩:=K.ks.logc (i:=2) (by omega)
  rw [ed,← ea] at c0
  rw [ed,← eb] at c1'
  rw [ed,← ec] at c2'
  have hL0:=hide (sinkLast_any wr p 2 n0 cap0 ad0 c0)
  have hL1:=hide (sinkLast_any wr p 5 n1 cap1 ad1 c1')
  have hL2:=hide (sinkLast_any wr p 8 n2 cap2 ad2 c2')
  have hnext:∀ (k:Nat) (v:Value),PkAt (wr.setCell ⟨g7,k,none⟩ v) p a2.epoch a2.logs sh2 st2 c2∧Far (PkU p c) x2 (wr.setCell ⟨g7,k,none⟩ v)∧(wr.setCell ⟨g7,k,none⟩ v).heap[w.heap.size+1]? = some (.cells zFr 63 (0,0)):=fun k v => by
   have hf:=far_set wr g7 k v
   exact ⟨K.far hf (fun k hk e => hngp (by rw [← e];exact hk)),F.trans hf (fun k hk e => by omega),hf.blk hr (by omega)⟩
  have HNX:=hide hnext
  have hset:=fun k v => blk_set (j:=k) (v:=v) hg
  have g0:=blk_cell (i:=0) hg
  have g1:=blk_cell (i:=1) hg
  have g2:=blk_cell (i:=2) hg
  have f0:=blk_free (i:=0) hg
  have f1:=blk_free (i:=1) hg
  have f2:=blk_free (i:=2) hg
  have HST:=hide hset
  have HKK:=hide K
  have HFF:=hide F
  have HRR:=hide hr
  have HGG:=hide hg
  rcases (show j=0 ∨ j=1 ∨ j=2 ∨ j=3 by omega) with rfl | rfl | rfl | rfl
  ·simp at g0
   clear K F hr hg hnext hset c0 c1' c2' ea eb ec ed ee g1 g2
   go_wp2_with (go_at_call 133;refine (unhide hL0).mono ?_;rintro r y ⟨rfl,rfl⟩)
   refine ⟨⟨1,by omega,by go_num,?_⟩,by simp [intOf]⟩
   obtain ⟨h1,h2,h3⟩:=(unhide HNX) 0 (.int .i64 n0)
   exact ⟨h1,h2,h3,by simpa using (unhide HST) 0 (.int .i64 n0)⟩
  ·simp at g1
   clear K F hr hg hnext hset c0 c1' c2' ea eb ec ed ee g0 g2
   go_wp2_with (go_at_call 133;refine (unhide hL1).mono ?_;rintro r y ⟨rfl,rfl⟩)
   refine ⟨⟨2,by omega,by go_num,?_⟩,by simp [intOf]⟩
   obtain ⟨h1,h2,h3⟩:=(unhide HNX) 1 (.int .i64 n1)
   exact ⟨h1,h2,h3,by simpa using (unhide HST) 1 (.int .i64 n1)⟩
  ·simp at g2
   clear K F hr hg hnext hset c0 c1' c2' ea eb ec ed ee g0 g1
   go_wp2_with (go_at_call 133;refine (unhide hL2).mono ?_;rintro r y ⟨rfl,rfl⟩)
   refine ⟨⟨3,by omega,by go_num,?_⟩,by simp [intOf]⟩
   obtain ⟨h1,h2,h3⟩:=(unhide HNX) 2 (.int .i64 n2)
   exact ⟨h1,h2,h3,by simpa using (unhide HST) 2 (.int .i64 n2)⟩
  ·simp at g0 g1 g2
   have c14:wr.cell? ⟨p,1,none⟩=some (.int .i64 e):=by rw [blk_cell K.ks.blk,K.ks.a1,ee]
   have hpx:=lt_of_block K.ks.blk
   have hgl:=lt_of_block hg
   clear K F hr hg hnext hset c0 c1' c2' ea eb ec ed ee hL0 hL1 hL2
   go_upto_region 12 with fail
   refine wp_region_foot (by kernel_rfl)
    [fun v _ => v = .pointer (some ⟨p,0,none⟩),fun v _ => v = .pointer (some ⟨p,0,none⟩),fun v _ => v = .pointer (some ⟨p,1,none⟩),fun v _ => v = .int .i64 e,fun v _ => v = .agg #[.int .i64 n0,.int .i64 n1,.int .i64 n2],fun v _ => v = .string wel,fun v _ => v = .agg #[.int .i64 2,.int .i64 e,.int .i64 0,.int .i64 0,.string wel],
     fun _ z => z.heap[w.heap.size+1]? = some (.cells #[.int .i64 2,.int .i64 e,.int .i64 0,.int .i64 0,.string wel] 63 (0,0)),fun v _ => v = .int .i64 0]
    [[(0,none)],[(41,some 0)],[(42,some 1)],[(43,some 2)],[(7,none)],[(45,some 4)],[(44,some 3),(46,some 5)],[(4,none),(47,some 6)],[]] [some 41,some 42,some 43,some 44,some 45,some 46,some 47,none,some 5] [false,false,false,false,false,true,false,false,false,false,false,false,false,false,false,false,false,false,false,false,false,false,false,false,false,false,false,false,false,false,false,false,false,false,false,false,false,false,false,false,false,true,true,true,true,true,true,true]
    [(7,fun k => k=w.heap.size+1)]
    (by kernel_rfl) (by kernel_rfl) (by kernel_rfl) (by kernel_rfl) (by kernel_rfl) ?_ ?_ ?_ ?_
   ·repeat' (first | exact stable_eq _ | exact stable_blk _ _ | exact trivial | apply And.intro)
   ·repeat' (first | exact trivial | exact .inl rfl | exact .inr (.inr (stableF_eq _ _)) | apply And.intro)
   ·refine ⟨?_,?_,?_,?_,?_,?_,?_,?_,?_,trivial⟩
    case refine_8 =>
     intro a' z hb hf
     simp only [PlanFacts,List.getD_cons_zero,List.getD_cons_succ,Array.getD_eq_getD_getElem?] at hf
     try simp at hf
     have q0:=hb.blk (unhide HRR) (by
      rintro ⟨q,hq,g1,g2,g3⟩
      simp at hq
      subst hq
      exact g1 rfl)
     clear hb
     rw [if_pos (by rfl)]
     refine wp_store_row 63 (.tmp 4) (.tmp 47) rfl (w.heap.size+1) #[.int .i64 2,.int .i64 e,.int .i64 0,.int .i64 0,.string wel] (by simp [Act.eval,hf]) (by simp [Act.eval,hf]) 63 _ q0 (by rw [size_frame];rfl) rfl (by rw [Array.all_eq_true_iff_forall_mem];intro u hu;simp at hu;rcases hu with rfl | rfl | rfl | rfl | rfl <;> rfl) ?_
     exact ⟨_,rfl,footOf_of (.head _) (far_setRow _ _ _),setRow_heap _ _ _ _ _ _ q0⟩
    case refine_9 =>
     intro a' z hb hf
     clear hb
     go_simp
     exact ⟨_,rfl,Far.refl _ _,rfl⟩
    all_goals
     intro a' z hb hf
     have hbz:Below wr.heap.size wr z:=foot_below hb (by intro q hq;simp at hq;subst hq;show depB _ 7 _=true;decide +kernel)
     have z1:=(hbz.cell (p:=⟨p,1,none⟩) hpx).trans c14
     have e0:=(hbz.cell (p:=⟨g7,0,none⟩) hgl).trans g0
     have e1:=(hbz.cell (p:=⟨g7,1,none⟩) hgl).trans g1
     have e2:=(hbz.cell (p:=⟨g7,2,none⟩) hgl).trans g2
     clear hb hbz
     simp only [PlanFacts,List.getD_cons_zero,List.getD_cons_succ,Array.getD_eq_getD_getElem?] at hf
     try simp at hf
     go_simp
     first
      | exact ⟨_,rfl,Far.refl _ _,rfl⟩
      | (refine (unhide (hWB z)).mono ?_;rintro r z2 ⟨rfl,hb2⟩;exact ⟨_,rfl,far_below hb2,rfl⟩)
      | skip
   ·intro f z hF hwd
    have h8:=hwd.2.2.2.2.2.2.2.1
    have h9:=hwd.2.2.2.2.2.2.2.2.1
    have q0:z.cell? ⟨w.heap.size+1,0,none⟩=some (.int .i64 2):=blk_cell (i:=0) h8
    have q1:z.cell? ⟨w.heap.size+1,1,none⟩=some (.int .i64 e):=blk_cell (i:=1) h8
    have q2:z.cell? ⟨w.heap.size+1,2,none⟩=some (.int .i64 0):=blk_cell (i:=2) h8
    have q3:z.cell? ⟨w.heap.size+1,3,none⟩=some (.int .i64 0):=blk_cell (i:=3) h8
    have q4:z.cell? ⟨w.heap.size+1,4,none⟩=some (.string wel):=blk_cell (i:=4) h8
    have hF:Far (fun k => k=w.heap.size+1) wr z:=hF.mono (fun k _ h => by
     obtain ⟨q,hq,h⟩:=h
     simp at hq
     subst hq
     exact h)
    have HFZ:=hide hF
    clear hwd hF h8
    simp only [mergeT,h9]
    generalize f 41=x41
    generalize f 42=x42
    generalize f 43=x43
    generalize f 44=x44
    generalize f 45=x45
    generalize f 46=x46
    generalize f 47=x47
    go_simp
    go_wp2
    refine bodyPost_ret (v:=.tuple #[.agg #[.int .i64 2,.int .i64 e,.int .i64 0,.int .i64 0,.string wel],.int .i64 0]) (by simp [results,Tryz.results87,go_sem,q0,q1,q2,q3,q4]) rfl ⟨rfl,?_⟩
    obtain ⟨N2,t1,t2,hs2,O2⟩:=unhide HN2
    have hxb:=(unhide HX).bel
    have hFz:=unhide HFZ
    have hres:¬ PkU p c2 (w.heap.size+1):=pk_not_cells (unhide HKK) (unhide HRR) (by decide) (by decide) (by decide) (by decide) (by decide) (by decide) (by decide) (by decide)
    refine ⟨sh2,st2,⟨c2,(unhide HKK).far hFz (fun k hk e => hres (by rw [← e];exact hk)),?_,fun k hk => (N2 k hk).imp id (fun h => Nat.le_trans hxb.size h),t1,t2⟩,hs2,O2⟩
    exact ((far_below (E:=PkU p c) hxb).trans (unhide HFF) (fun _ _ h => h)).trans hFz (fun k hk e => by omega)
end Go.Proofs.YtamafdcnbcoegabGreat
namespace Go.Proofs.YtamafdcnbcoegabGreat
open Go.RowKit
set_option maxRecDepth 100000 in
set_option maxHeartbeats 4000000 in
theorem answerByH_okR {w:World} {p:Nat} {R:World→World→Prop} (hbeh:∀ {u v z:World},R v z→Below u.heap.size u v→R u z) (kd k e s q:Int) (b:ByteArray) (k' e' s' q':Int) (b':ByteArray) (hp:Wire.proper k' e' s' q' b' = true)
  (hC:∀ y,Below w.heap.size w y→Calls Tryz.prog 87 #[ptrTo p,.agg #[.int .i64 k,.int .i64 e,.int .i64 s,.int .i64 q,.string b]] y fun r z => r = .returned (.tuple #[.agg #[.int .i64 k',.int .i64 e',.int .i64 s',.int .i64 q',.string b'],.int .i64 0])∧R y z) :
  Calls Tryz.prog 70 #[.agg #[.int .i64 kd,.func (.func 87) #[ptrTo p] #[]],.agg #[.int .i64 k,.int .i64 e,.int .i64 s,.int .i64 q,.string b]] w fun r z =>
   ∃ lv fs x,r = .returned (.tuple #[lv,.int .i64 0])∧R w x∧Below x.heap.size x z∧FramesOut x.heap.size z lv fs [⟨(Wire.bytes k' e' s' q' b'.data.toList).toArray⟩] (fun _ => False):=by
 have hFB:=fun y => hide (frameBytes_any k' e' s' q' b' y hp)
 have hCC:=fun y hy => hide (hC y hy)
 have HB0:=hide (alloc2 w (.cells #[.int .i64 kd,.func (.func 87) #[ptrTo p] #[]] 130) (.cells #[.int .i64 k,.int .i64 e,.int .i64 s,.int .i64 q,.string b] 63))
 clear hC hp
 unfold ptrTo at *
 go_enter Tryz.func70,Tryz.ntmps70
 go_upto_region 1 with fail
 refine wp_world (fun x => x.heap[w.heap.size]? = some (.cells #[.int .i64 kd,.func (.func 87) #[.pointer (some ⟨p,0,none⟩)] #[]] 130 (0,0))∧x.heap[w.heap.size+1]? = some (.cells #[.int .i64 k,.int .i64 e,.int .i64 s,.int .i64 q,.string b] 63 (0,0))∧Below w.heap.size w x) (unhide HB0) ?_
 clear HB0
 rintro x ⟨h0,h1,hb⟩
 have y1:=blk_cell (i:=1) h0
 have z0:=blk_cell (i:=0) h1
 have z1:=blk_cell (i:=1) h1
 have z2:=blk_cell (i:=2) h1
 have z3:=blk_cell (i:=3) h1
 have z4:=blk_cell (i:=4) h1
 simp at y1 z0 z1 z2 z3 z4
 have hCX:=hide (unhide (hCC x hb))
 have HB:=hide hb
 clear h0 h1 hb hCC
 go_upto_region 2 with (go_at_call 87;refine (unhide hCX).mono ?_;rintro r y ⟨rfl,hk⟩)
 obtain ⟨g6,hg6⟩:∃ g6,g6=y.heap.size:=⟨_,rfl⟩
 have HG6:=hide hg6
 rw [← hg6]
 have HK:=hide (hbeh hk (unhide HB))
 clear hk hg6
 refine wp_world (fun u => u.heap[g6]? = some (.cells #[.int .i64 k',.int .i64 e',.int .i64 s',.int .i64 q',.string b'] 63 (0,0))∧Below y.heap.size y u) ?_ ?_
 ·rw [unhide HG6]
  exact ⟨heap_alloc_new _ _,(Below.refl _ _).alloc (Nat.le_refl _) _⟩
 clear y1 z0 z1 z2 z3 z4 hCX
 rintro u ⟨h6,hbu⟩
 have z0:=blk_cell (i:=0) h6
 have z1:=blk_cell (i:=1) h6
 have z2:=blk_cell (i:=2) h6
 have z3:=blk_cell (i:=3) h6
 have z4:=blk_cell (i:=4) h6
 simp at z0 z1 z2 z3 z4
 have HU:=hide hbu
 clear h6 hbu
 go_wp2_with (go_at_call 67;refine (unhide (hFB _)).mono ?_;rintro r v ⟨bv',rfl,hown,hb2⟩;obtain ⟨ad,cap,rfl,_⟩:=hown.shape;replace hown:=hide hown;replace hb2:=hide hb2)
 go_ret2
 have hbv:=(unhide hb2)
 have ho:=unhide hown
 have hsz:=(unhide HU).size
 have hb3:Below y.heap.size y v:=(unhide HU).trans (hbv.mono hsz)
 refine ⟨_,_,y,rfl,unhide HK,hb3.alloc hb3.size _,framesOut_one (World.ownsRow.alloc (ho.mono (by omega)) _) hb3.size (heap_alloc_new _ _)⟩
set_option maxRecDepth 100000 in
set_option maxHeartbeats 4000000 in
theorem answerByD_okR {w:World} {p:Nat} {R:World→World→Prop} (hbeh:∀ {u v z:World},R v z→Below u.heap.size u v→R u z) (kd k e s q:Int) (b:ByteArray) (k' e' s' q':Int) (b':ByteArray) (hp:Wire.proper k' e' s' q' b' = true)
  (hC:∀ y,Below w.heap.size w y→Calls Tryz.prog 88 #[ptrTo p,.agg #[.int .i64 k,.int .i64 e,.int .i64 s,.int .i64 q,.string b]] y fun r z => r = .returned (.tuple #[.agg #[.int .i64 k',.int .i64 e',.int .i64 s',.int .i64 q',.string b'],.int .i64 0])∧R y z) :
  Calls Tryz.prog 70 #[.agg #[.int .i64 kd,.func (.func 88) #[ptrTo p] #[]],.agg #[.int .i64 k,.int .i64 e,.int .i64 s,.int .i64 q,.string b]] w fun r z =>
   ∃ lv fs x,r = .returned (.tuple #[lv,.int .i64 0])∧R w x∧Below x.heap.size x z∧FramesOut x.heap.size z lv fs [⟨(Wire.bytes k' e' s' q' b'.data.toList).toArray⟩] (fun _ => False):=by
 have hFB:=fun y => hide (frameBytes_any k' e' s' q' b' y hp)
 have hCC:=fun y hy => hide (hC y hy)
 have HB0:=hide (alloc2 w (.cells #[.int .i64 kd,.func (.func 88) #[ptrTo p] #[]] 130) (.cells #[.int .i64 k,.int .i64 e,.int .i64 s,.int .i64 q,.string b] 63))
 clear hC hp
 unfold ptrTo at *
 go_enter Tryz.func70,Tryz.ntmps70
 go_upto_region 1 with fail
 refine wp_world (fun x => x.heap[w.heap.size]? = some (.cells #[.int .i64 kd,.func (.func 88) #[.pointer (some ⟨p,0,none⟩)] #[]] 130 (0,0))∧x.heap[w.heap.size+1]? = some (.cells #[.int .i64 k,.int .i64 e,.int .i64 s,.int .i64 q,.string b] 63 (0,0))∧Below w.heap.size w x) (unhide HB0) ?_
 clear HB0
 rintro x ⟨h0,h1,hb⟩
 have y1:=blk_cell (i:=1) h0
 have z0:=blk_cell (i:=0) h1
 have z1:=blk_cell (i:=1) h1
 have z2:=blk_cell (i:=2) h1
 have z3:=blk_cell (i:=3) h1
 have z4:=blk_cell (i:=4) h1
 simp at y1 z0 z1 z2 z3 z4
 have hCX:=hide (unhide (hCC x hb))
 have HB:=hide hb
 clear h0 h1 hb hCC
 go_upto_region 2 with (go_at_call 88;refine (unhide hCX).mono ?_;rintro r y ⟨rfl,hk⟩)
 obtain ⟨g6,hg6⟩:∃ g6,g6=y.heap.size:=⟨_,rfl⟩
 have HG6:=hide hg6
 rw [← hg6]
 have HK:=hide (hbeh hk (unhide HB))
 clear hk hg6
 refine wp_world (fun u => u.heap[g6]? = some (.cells #[.int .i64 k',.int .i64 e',.int .i64 s',.int .i64 q',.string b'] 63 (0,0))∧Below y.heap.size y u) ?_ ?_
 ·rw [unhide HG6]
  exact ⟨heap_alloc_new _ _,(Below.refl _ _).alloc (Nat.le_refl _) _⟩
 clear y1 z0 z1 z2 z3 z4 hCX
 rintro u ⟨h6,hbu⟩
 have z0:=blk_cell (i:=0) h6
 have z1:=blk_cell (i:=1) h6
 have z2:=blk_cell (i:=2) h6
 have z3:=blk_cell (i:=3) h6
 have z4:=blk_cell (i:=4) h6
 simp at z0 z1 z2 z3 z4
 have HU:=hide hbu
 clear h6 hbu
 go_wp2_with (go_at_call 67;refine (unhide (hFB _)).mono ?_;rintro r v ⟨bv',rfl,hown,hb2⟩;obtain ⟨ad,cap,rfl,_⟩:=hown.shape;replace hown:=hide hown;replace hb2:=hide hb2)
 go_ret2
 have hbv:=(unhide hb2)
 have ho:=unhide hown
 have hsz:=(unhide HU).size
 have hb3:Below y.heap.size y v:=(unhide HU).trans (hbv.mono hsz)
 refine ⟨_,_,y,rfl,unhide HK,hb3.alloc hb3.size _,framesOut_one (World.ownsRow.alloc (ho.mono (by omega)) _) hb3.size (heap_alloc_new _ _)⟩
end Go.Proofs.YtamafdcnbcoegabGreat
namespace Go.Proofs.YtamafdcnbcoegabGreat
open Go.RowKit
def DlR (R:World→World→Prop) (w z:World) (er:Int) (r:Ending) (Fl:List ByteArray):Prop :=
 ∃ lv fs x,r = .returned (.tuple #[lv,.int .i64 er])∧R w x∧Below x.heap.size x z∧FramesOut x.heap.size z lv fs Fl (fun _ => False)
set_option maxRecDepth 100000 in
set_option maxHeartbeats 4000000 in
theorem sinkDeliverH_R {w:World} {p:Nat} {a:Mod.Sk} {R:World→World→Prop} {er:Int} {sh:Nat→List (Nat × Value)} {st:Mod.Stv} {c:Sv} (H:PkAt w p a.epoch a.logs sh st c) (hs:st.dk.dead=false) (bs:Value) (hbeh:∀ {u v z:World},R v z→Below u.heap.size u v→R u z) (k e s q:Int) (b:ByteArray) (hk:k=1) {Fl:List ByteArray}
  (hDec:∀ y,Below w.heap.size w y→Calls Tryz.prog 69 #[bs] y fun r z => r = .returned (.tuple #[.agg #[.int .i64 k,.int .i64 e,.int .i64 s,.int .i64 q,.string b],.int .i64 0])∧Below y.heap.size y z)
  (hC:∀ y,Below w.heap.size w y→Calls Tryz.prog 70 #[.agg #[.int .i64 1,.func (.func 87) #[ptrTo p] #[]],.agg #[.int .i64 k,.int .i64 e,.int .i64 s,.int .i64 q,.string b]] y fun r z =>
   ∃ lv fs x,r = .returned (.tuple #[lv,.int .i64 er])∧R y x∧Below x.heap.size x z∧FramesOut x.heap.size z lv fs Fl (fun _ => False)) :
  Calls Tryz.prog 44 #[ptrTo p,bs] w fun r z => DlR R w z er r Fl:=by
 have c0:w.cell? ⟨p,0,none⟩=some (ptrTo c.s):=by rw [blk_cell H.ks.blk,H.ks.a0]
 have hID:=storeIsDead_any H.stt
 rw [hs] at hID
 have HID:=hide hID
 have HDC:=hide (hDec w (Below.refl _ _))
 subst hk
 have hCC:=fun y hy => hide (hC y hy)
 clear hC
 obtain ⟨ad,cap,hrv,hcap1,hcap2,hcells⟩:=H.rl.shape
 obtain ⟨g,o,rfl,hcl⟩:=hcells (by omega)
 have r0:w.cell? ⟨g,o,none⟩=some (.int .i64 1):=by have:=hcl 0 (by omega);simpa [rulesOf] using this
 have r1:w.cell? ⟨g,o+1,none⟩=some (.func (.func 87) #[ptrTo p] #[]):=by have:=hcl 1 (by omega);simpa [rulesOf] using this
 have r2:w.cell? ⟨g,o+2,none⟩=some (.int .i64 3):=by have:=hcl 2 (by omega);simpa [rulesOf] using this
 have r3:w.cell? ⟨g,o+2+1,none⟩=some (.func (.func 88) #[ptrTo p] #[]):=by have:=hcl 3 (by omega);simpa [rulesOf] using this
 have c11:w.cell? ⟨p,11,none⟩=some (.slice (some ⟨g,o,none⟩) 2 cap):=by rw [blk_cell H.ks.blk,H.ks.ar,hrv]
 have hgl:g < w.heap.size:=World.block_lt_of_cell? _ _ r0
 have hpl:=lt_of_block H.ks.blk
 clear H hID hDec hcl hcells hrv
 unfold ptrTo at *
 go_enter Tryz.func44,Tryz.ntmps44
 go_upto_region 4 with (first | (go_at_call 66;refine (unhide HID).mono ?_;rintro r y ⟨rfl,hyw⟩;obtain rfl:w=y:=hyw.symm) | (go_at_call 69;refine (unhide HDC).mono ?_;rintro r y ⟨rfl,hb⟩))
 obtain ⟨g6,hg6⟩:∃ g6,g6=y.heap.size:=⟨_,rfl⟩
 have hgw:w.heap.size ≤ g6:=by have:=hb.size;omega
 have HG6:=hide hg6
 have HB:=hide hb
 rw [← hg6]
 clear hg6 hb
 refine wp_world (fun u => u.heap[g6]? = some (.cells #[.int .i64 1,.int .i64 e,.int .i64 s,.int .i64 q,.string b] 63 (0,0))∧Below w.heap.size w u) ?_ ?_
 ·rw [unhide HG6]
  exact ⟨heap_alloc_new _ _,(unhide HB).alloc (unhide HB).size _⟩
 clear HG6 HB c0 HDC HID
 rintro u ⟨h6,hbu⟩
 have d11:=(hbu.cell (p:=⟨p,11,none⟩) hpl).trans c11
 have H6:=hide h6
 have HU:=hide hbu
 clear h6 hbu
 go_wp2
 go_loopw [9,28] (fun _ i wr => ∃ j:Nat,j ≤ 0∧i = .int .i64 j∧wr.heap[g6]? = some (.cells #[.int .i64 1,.int .i64 e,.int .i64 s,.int .i64 q,.string b] 63 (0,0))∧Below w.heap.size w wr) (fun _ i _ => 3 - (intOf i).toNat)
 case atStart => exact ⟨0,by omega,rfl,unhide H6,unhide HU⟩
 case round =>
  obtain ⟨j,hj,rfl,h6,hb⟩:=hrel
  clear H6 HU d11
  have s0:=(hb.cell (p:=⟨g,o,none⟩) hgl).trans r0
  have s1:=(hb.cell (p:=⟨g,o+1,none⟩) hgl).trans r1
  have s2:=(hb.cell (p:=⟨g,o+2,none⟩) hgl).trans r2
  have s3:=(hb.cell (p:=⟨g,o+2+1,none⟩) hgl).trans r3
  have y0:=blk_cell (i:=0) h6
  have y1:=blk_cell (i:=1) h6
  have y2:=blk_cell (i:=2) h6
  have y3:=blk_cell (i:=3) h6
  have y4:=blk_cell (i:=4) h6
  simp at y0 y1 y2 y3 y4
  have h6l:=lt_of_block h6
  have HH6:=hide h6
  have HBB:=hide hb
  have hnext:∀ ob,(wr.alloc ob).heap[g6]? = some (.cells #[.int .i64 1,.int .i64 e,.int .i64 s,.int .i64 q,.string b] 63 (0,0))∧Below w.heap.size w (wr.alloc ob):=fun ob => ⟨(hao _ _ h6l).trans h6,hb.alloc hb.size _⟩
  have HNX:=hide hnext
  clear h6 hb hnext r0 r1 r2 r3
  have hsf1:∀ (ad:Addr) (m:Mode) (z:World),(store ad (.func (.func 87) #[.pointer (some ⟨p,0,none⟩)] #[]) m).run Tryz.prog z=stored Tryz.prog z ad (.func (.func 87) #[.pointer (some ⟨p,0,none⟩)] #[]) m:=fun ad m z => run_store _ _ _ _ _ rfl
  have hsf2:∀ (ad:Addr) (m:Mode) (z:World),(store ad (.func (.func 88) #[.pointer (some ⟨p,0,none⟩)] #[]) m).run Tryz.prog z=stored Tryz.prog z ad (.func (.func 88) #[.pointer (some ⟨p,0,none⟩)] #[]) m:=fun ad m z => run_store _ _ _ _ _ rfl
  obtain rfl:j=0:=by omega
  focus
   go_wp2_with (go_at_call 70;refine (unhide (hCC _ (by first | exact ((unhide HNX) _).2 | exact (unhide HBB)))).mono ?_;rintro r z ⟨lv,fs,x,rfl,k1,k2,k3⟩;replace k1:=hide k1;replace k2:=hide k2;replace k3:=hide k3)
   go_ret2
   exact ⟨lv,fs,x,rfl,hbeh (unhide k1) (by first | exact ((unhide HNX) _).2 | exact (unhide HBB)),unhide k2,unhide k3⟩
set_option maxRecDepth 100000 in
set_option maxHeartbeats 4000000 in
theorem sinkDeliverD_R {w:World} {p:Nat} {a:Mod.Sk} {R:World→World→Prop} {er:Int} {sh:Nat→List (Nat × Value)} {st:Mod.Stv} {c:Sv} (H:PkAt w p a.epoch a.logs sh st c) (hs:st.dk.dead=false) (bs:Value) (hbeh:∀ {u v z:World},R v z→Below u.heap.size u v→R u z) (k e s q:Int) (b:ByteArray) (hk:k=3) {Fl:List ByteArray}
  (hDec:∀ y,Below w.heap.size w y→Calls Tryz.prog 69 #[bs] y fun r z => r = .returned (.tuple #[.agg #[.int .i64 k,.int .i64 e,.int .i64 s,.int .i64 q,.string b],.int .i64 0])∧Below y.heap.size y z)
  (hC:∀ y,Below w.heap.size w y→Calls Tryz.prog 70 #[.agg #[.int .i64 3,.func (.func 88) #[ptrTo p] #[]],.agg #[.int .i64 k,.int .i64 e,.int .i64 s,.int .i64 q,.string b]] y fun r z =>
   ∃ lv fs x,r = .returned (.tuple #[lv,.int .i64 er])∧R y x∧Below x.heap.size x z∧FramesOut x.heap.size z lv fs Fl (fun _ => False)) :
  Calls Tryz.prog 44 #[ptrTo p,bs] w fun r z => DlR R w z er r Fl:=by
 have c0:w.cell? ⟨p,0,none⟩=some (ptrTo c.s):=by rw [blk_cell H.ks.blk,H.ks.a0]
 have hID:=storeIsDead_any H.stt
 rw [hs] at hID
 have HID:=hide hID
 have HDC:=hide (hDec w (Below.refl _ _))
 subst hk
 have hCC:=fun y hy => hide (hC y hy)
 clear hC
 obtain ⟨ad,cap,hrv,hcap1,hcap2,hcells⟩:=H.rl.shape
 obtain ⟨g,o,rfl,hcl⟩:=hcells (by omega)
 have r0:w.cell? ⟨g,o,none⟩=some (.int .i64 1):=by have:=hcl 0 (by omega);simpa [rulesOf] using this
 have r1:w.cell? ⟨g,o+1,none⟩=some (.func (.func 87) #[ptrTo p] #[]):=by have:=hcl 1 (by omega);simpa [rulesOf] using this
 have r2:w.cell? ⟨g,o+2,none⟩=some (.int .i64 3):=by have:=hcl 2 (by omega);simpa [rulesOf] using this
 have r3:w.cell? ⟨g,o+2+1,none⟩=some (.func (.func 88) #[ptrTo p] #[]):=by have:=hcl 3 (by omega);simpa [rulesOf] using this
 have c11:w.cell? ⟨p,11,none⟩=some (.slice (some ⟨g,o,none⟩) 2 cap):=by rw [blk_cell H.ks.blk,H.ks.ar,hrv]
 have hgl:g < w.heap.size:=World.block_lt_of_cell? _ _ r0
 have hpl:=lt_of_block H.ks.blk
 clear H hID hDec hcl hcells hrv
 unfold ptrTo at *
 go_enter Tryz.func44,Tryz.ntmps44
 go_upto_region 4 with (first | (go_at_call 66;refine (unhide HID).mono ?_;rintro r y ⟨rfl,hyw⟩;obtain rfl:w=y:=hyw.symm) | (go_at_call 69;refine (unhide HDC).mono ?_;rintro r y ⟨rfl,hb⟩))
 obtain ⟨g6,hg6⟩:∃ g6,g6=y.heap.size:=⟨_,rfl⟩
 have hgw:w.heap.size ≤ g6:=by have:=hb.size;omega
 have HG6:=hide hg6
 have HB:=hide hb
 rw [← hg6]
 clear hg6 hb
 refine wp_world (fun u => u.heap[g6]? = some (.cells #[.int .i64 3,.int .i64 e,.int .i64 s,.int .i64 q,.string b] 63 (0,0))∧Below w.heap.size w u) ?_ ?_
 ·rw [unhide HG6]
  exact ⟨heap_alloc_new _ _,(unhide HB).alloc (unhide HB).size _⟩
 clear HG6 HB c0 HDC HID
 rintro u ⟨h6,hbu⟩
 have d11:=(hbu.cell (p:=⟨p,11,none⟩) hpl).trans c11
 have H6:=hide h6
 have HU:=hide hbu
 clear h6 hbu
 go_wp2
 go_loopw [9,28] (fun _ i wr => ∃ j:Nat,j ≤ 1∧i = .int .i64 j∧wr.heap[g6]? = some (.cells #[.int .i64 3,.int .i64 e,.int .i64 s,.int .i64 q,.string b] 63 (0,0))∧Below w.heap.size w wr) (fun _ i _ => 3 - (intOf i).toNat)
 case atStart => exact ⟨0,by omega,rfl,unhide H6,unhide HU⟩
 case round =>
  obtain ⟨j,hj,rfl,h6,hb⟩:=hrel
  clear H6 HU d11
  have s0:=(hb.cell (p:=⟨g,o,none⟩) hgl).trans r0
  have s1:=(hb.cell (p:=⟨g,o+1,none⟩) hgl).trans r1
  have s2:=(hb.cell (p:=⟨g,o+2,none⟩) hgl).trans r2
  have s3:=(hb.cell (p:=⟨g,o+2+1,none⟩) hgl).trans r3
  have y0:=blk_cell (i:=0) h6
  have y1:=blk_cell (i:=1) h6
  have y2:=blk_cell (i:=2) h6
  have y3:=blk_cell (i:=3) h6
  have y4:=blk_cell (i:=4) h6
  simp at y0 y1 y2 y3 y4
  have h6l:=lt_of_block h6
  have HH6:=hide h6
  have HBB:=hide hb
  have hnext:∀ ob,(wr.alloc ob).heap[g6]? = some (.cells #[.int .i64 3,.int .i64 e,.int .i64 s,.int .i64 q,.string b] 63 (0,0))∧Below w.heap.size w (wr.alloc ob):=fun ob => ⟨(hao _ _ h6l).trans h6,hb.alloc hb.size _⟩
  have HNX:=hide hnext
  clear h6 hb hnext r0 r1 r2 r3
  have hsf1:∀ (ad:Addr) (m:Mode) (z:World),(store ad (.func (.func 87) #[.pointer (some ⟨p,0,none⟩)] #[]) m).run Tryz.prog z=stored Tryz.prog z ad (.func (.func 87) #[.pointer (some ⟨p,0,none⟩)] #[]) m:=fun ad m z => run_store _ _ _ _ _ rfl
  have hsf2:∀ (ad:Addr) (m:Mode) (z:World),(store ad (.func (.func 88) #[.pointer (some ⟨p,0,none⟩)] #[]) m).run Tryz.prog z=stored Tryz.prog z ad (.func (.func 88) #[.pointer (some ⟨p,0,none⟩)] #[]) m:=fun ad m z => run_store _ _ _ _ _ rfl
  rcases (show j=0 ∨ j=1 by omega) with rfl | rfl
  focus
   go_wp2
   exact ⟨⟨1,by omega,by go_num,(unhide HNX) _⟩,by simp [intOf]⟩
  focus
   go_wp2_with (go_at_call 70;refine (unhide (hCC _ (by first | exact ((unhide HNX) _).2 | exact (unhide HBB)))).mono ?_;rintro r z ⟨lv,fs,x,rfl,k1,k2,k3⟩;replace k1:=hide k1;replace k2:=hide k2;replace k3:=hide k3)
   go_ret2
   exact ⟨lv,fs,x,rfl,hbeh (unhide k1) (by first | exact ((unhide HNX) _).2 | exact (unhide HBB)),unhide k2,unhide k3⟩
set_option maxRecDepth 100000 in
set_option maxHeartbeats 4000000 in
theorem sinkDeliverN_R {w:World} {p:Nat} {a:Mod.Sk} {R:World→World→Prop} {sh:Nat→List (Nat × Value)} {st:Mod.Stv} {c:Sv} (H:PkAt w p a.epoch a.logs sh st c) (hs:st.dk.dead=false) (hR:R w w) (bs:Value) (k e s q:Int) (b:ByteArray) (hk1:¬ k=1) (hk3:¬ k=3)
  (hDec:∀ y,Below w.heap.size w y→Calls Tryz.prog 69 #[bs] y fun r z => r = .returned (.tuple #[.agg #[.int .i64 k,.int .i64 e,.int .i64 s,.int .i64 q,.string b],.int .i64 0])∧Below y.heap.size y z) :
  Calls Tryz.prog 44 #[ptrTo p,bs] w fun r z => DlR R w z 0 r []:=by
 have c0:w.cell? ⟨p,0,none⟩=some (ptrTo c.s):=by rw [blk_cell H.ks.blk,H.ks.a0]
 have hID:=storeIsDead_any H.stt
 rw [hs] at hID
 have HID:=hide hID
 have HDC:=hide (hDec w (Below.refl _ _))
 have e1:((1:Int) == k)=false:=by simp;omega
 have e3:((3:Int) == k)=false:=by simp;omega
 obtain ⟨ad,cap,hrv,hcap1,hcap2,hcells⟩:=H.rl.shape
 obtain ⟨g,o,rfl,hcl⟩:=hcells (by omega)
 have r0:w.cell? ⟨g,o,none⟩=some (.int .i64 1):=by have:=hcl 0 (by omega);simpa [rulesOf] using this
 have r1:w.cell? ⟨g,o+1,none⟩=some (.func (.func 87) #[ptrTo p] #[]):=by have:=hcl 1 (by omega);simpa [rulesOf] using this
 have r2:w.cell? ⟨g,o+2,none⟩=some (.int .i64 3):=by have:=hcl 2 (by omega);simpa [rulesOf] using this
 have r3:w.cell? ⟨g,o+2+1,none⟩=some (.func (.func 88) #[ptrTo p] #[]):=by have:=hcl 3 (by omega);simpa [rulesOf] using this
 have c11:w.cell? ⟨p,11,none⟩=some (.slice (some ⟨g,o,none⟩) 2 cap):=by rw [blk_cell H.ks.blk,H.ks.ar,hrv]
 have hgl:g < w.heap.size:=World.block_lt_of_cell? _ _ r0
 have hpl:=lt_of_block H.ks.blk
 have HST:=hide hR
 clear H hID hDec hcl hcells hrv hR
 unfold ptrTo at *
 go_enter Tryz.func44,Tryz.ntmps44
 go_upto_region 4 with (first | (go_at_call 66;refine (unhide HID).mono ?_;rintro r y ⟨rfl,hyw⟩;obtain rfl:w=y:=hyw.symm) | (go_at_call 69;refine (unhide HDC).mono ?_;rintro r y ⟨rfl,hb⟩))
 obtain ⟨g6,hg6⟩:∃ g6,g6=y.heap.size:=⟨_,rfl⟩
 have hgw:w.heap.size ≤ g6:=by have:=hb.size;omega
 have HG6:=hide hg6
 have HB:=hide hb
 rw [← hg6]
 clear hg6 hb
 refine wp_world (fun u => u.heap[g6]? = some (.cells #[.int .i64 k,.int .i64 e,.int .i64 s,.int .i64 q,.string b] 63 (0,0))∧Below w.heap.size w u) ?_ ?_
 ·rw [unhide HG6]
  exact ⟨heap_alloc_new _ _,(unhide HB).alloc (unhide HB).size _⟩
 clear HG6 HB c0 HDC HID
 rintro u ⟨h6,hbu⟩
 have d11:=(hbu.cell (p:=⟨p,11,none⟩) hpl).trans c11
 have H6:=hide h6
 have HU:=hide hbu
 clear h6 hbu
 go_wp2
 go_loopw [9,28] (fun _ i wr => ∃ j:Nat,j ≤ 2∧i = .int .i64 j∧wr.heap[g6]? = some (.cells #[.int .i64 k,.int .i64 e,.int .i64 s,.int .i64 q,.string b] 63 (0,0))∧Below w.heap.size w wr) (fun _ i _ => 3 - (intOf i).toNat)
 case atStart => exact ⟨0,by omega,rfl,unhide H6,unhide HU⟩
 case round =>
  obtain ⟨j,hj,rfl,h6,hb⟩:=hrel
  clear H6 HU d11
  have s0:=(hb.cell (p:=⟨g,o,none⟩) hgl).trans r0
  have s1:=(hb.cell (p:=⟨g,o+1,none⟩) hgl).trans r1
  have s2:=(hb.cell (p:=⟨g,o+2,none⟩) hgl).trans r2
  have s3:=(hb.cell (p:=⟨g,o+2+1,none⟩) hgl).trans r3
  have y0:=blk_cell (i:=0) h6
  have y1:=blk_cell (i:=1) h6
  have y2:=blk_cell (i:=2) h6
  have y3:=blk_cell (i:=3) h6
  have y4:=blk_cell (i:=4) h6
  simp at y0 y1 y2 y3 y4
  have h6l:=lt_of_block h6
  have HH6:=hide h6
  have HBB:=hide hb
  have hnext:∀ ob,(wr.alloc ob).heap[g6]? = some (.cells #[.int .i64 k,.int .i64 e,.int .i64 s,.int .i64 q,.string b] 63 (0,0))∧Below w.heap.size w (wr.alloc ob):=fun ob => ⟨(hao _ _ h6l).trans h6,hb.alloc hb.size _⟩
  have HNX:=hide hnext
  clear h6 hb hnext r0 r1 r2 r3
  have hsf1:∀ (ad:Addr) (m:Mode) (z:World),(store ad (.func (.func 87) #[.pointer (some ⟨p,0,none⟩)] #[]) m).run Tryz.prog z=stored Tryz.prog z ad (.func (.func 87) #[.pointer (some ⟨p,0,none⟩)] #[]) m:=fun ad m z => run_store _ _ _ _ _ rfl
  have hsf2:∀ (ad:Addr) (m:Mode) (z:World),(store ad (.func (.func 88) #[.pointer (some ⟨p,0,none⟩)] #[]) m).run Tryz.prog z=stored Tryz.prog z ad (.func (.func 88) #[.pointer (some ⟨p,0,none⟩)] #[]) m:=fun ad m z => run_store _ _ _ _ _ rfl
  rcases (show j=0 ∨ j=1 ∨ j=2 by omega) with rfl | rfl | rfl
  focus
   go_wp2
   exact ⟨⟨1,by omega,by go_num,(unhide HNX) _⟩,by simp [intOf]⟩
  focus
   go_wp2
   exact ⟨⟨2,by omega,by go_num,(unhide HNX) _⟩,by simp [intOf]⟩
  focus
   go_wp2
   go_ret2
   exact ⟨_,_,w,rfl,unhide HST,unhide HBB,framesOut_none _ _⟩
end Go.Proofs.YtamafdcnbcoegabGreat
namespace Go.Proofs.YtamafdcnbcoegabGreat
open Go.RowKit
theorem FramesOut.up {B B':Nat} {z:World} {lv:Value} {fs:List Value} {Fl:List ByteArray} {U:Nat→Prop} (h:FramesOut B z lv fs Fl (fun _ => False)) (hB:B' ≤ B) (hU:∀ k,U k→k < B):FramesOut B' z lv fs Fl U:=by
 refine ⟨h.len,ownsRow_monoB h.row hB,fun j v hj => ownsRow_monoB (h.each j v hj) hB,h.apart,fun k hk hu => ?_⟩
 have:=hU k hu
 rcases hk with hk | hk
 ·have:=(World.ownsRow.lt h.row k hk).1
  omega
 ·obtain ⟨j,hj,u,hu2,hk⟩:=hk
  have:=(World.ownsRow.lt (h.each j u hu2) k hk).1
  omega
theorem cs_not {w:World} {p e:Nat} {logs:Nat→List ByteArray} {sh:Nat→List (Nat × Value)} {st:Mod.Stv} {c:Sv} (H:PkAt w p e logs sh st c) {v q:Nat} (hb:w.heap[v]? = some (.cells #[ptrTo q] 79 (0,0))):¬ PkU p c v :=
 pk_not_cells H hb (by decide) (by decide) (by decide) (by decide) (by decide) (by decide) (by decide) (by decide)
end Go.Proofs.YtamafdcnbcoegabGreat
