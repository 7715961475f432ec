import Derived.Test.YthdmjmnkhlpnnabGreatDoorZ06
import Derived.Laws.CopyOwn
import Derived.Deep.RegionLaw
import Derived.Lib.AppendZeros
import Derived.Test.YthdmjmnkhlpnnabGreatDoorZ05
import Derived.Test.YthdmjmnkhlpnnabGreatDoorZ02
import Derived.Deep.AppendLies
namespace Go.Proofs.YthdmjmnkhlpnnabGreatDoor
open Go.RowKit
theorem wraps_u64' (n:Int) (h₀:0<=n) (h₁:n < 2 ^ 63):IntKind.u64.wrap n=n:=by rw [IntKind.wrap_u64];omega
theorem and32 (n:Nat) (h:n < 4294967296):bits .and .u64 (n:Int) 4294967295=n:=by
 have hm:=bits_mask .u64 63 (by decide) wraps_u64' 32 (by decide) (n:Int) (by omega) (by omega)
 have e:((2:Int) ^ 32 - 1)=4294967295:=by decide
 have e2:((2:Int) ^ 32)=4294967296:=by decide
 rw [e,e2] at hm
 rw [hm]
 omega
set_option maxHeartbeats 800000 in
theorem mul64_any (n:Nat) (hn:n<=1000) (w:World):Calls Tryz.prog 202 #[.int .u64 1,.int .u64 n] w fun e w' => e = .returned (.tuple #[.int .u64 0,.int .u64 n]) /\ w=w':=by
 have a1:bits .and .u64 1 4294967295=1:=by decide
 have a2:=and32 n (by omega)
 have a0:bits .and .u64 0 4294967295=0:=by decide
 have d0:(n:Int) / 4294967296=0:=by omega
 have d1:(n:Int) / 2 ^ 32=0:=by omega
 go_enter Tryz.func202,Tryz.ntmps202
 go_wp2
 go_ret2
 exact ⟨rfl,rfl⟩
set_option maxHeartbeats 800000 in
theorem mul_any (n:Nat) (hn:n<=1000) (w:World):Calls Tryz.prog 195 #[.int .u64 1,.int .u64 n] w fun e w' => e = .returned (.tuple #[.int .u64 0,.int .u64 n]) /\ w=w':=by
 go_enter Tryz.func195,Tryz.ntmps195
 go_wp2_with (go_at_call 202;refine (mul64_any n hn _).mono ?_;rintro e w' ⟨rfl,rfl⟩)
 go_ret2
 exact ⟨rfl,rfl⟩
def rp (N:Nat) (z:Int) (n:Nat):List Int:=List.replicate n z ++ List.replicate (N - n) 0
theorem rp_length (N:Nat) (z:Int) (n:Nat) (h:n<=N):(rp N z n).length=N:=by simp [rp];omega
theorem rp_all (N:Nat) (z:Int):rp N z N=List.replicate N z:=by simp [rp]
theorem rp_zero (N:Nat) (z:Int):rp N z 0=List.replicate N 0:=by simp [rp]
theorem rp_splice (N:Nat) (z:Int) (n m:Nat) (h:n+m<=N):splice (ivs (rp N z n)) n (List.replicate m (Value.int .i64 z))=ivs (rp N z (n+m)):=by
 unfold splice rp ivs
 rw [List.map_append,List.map_append,List.map_replicate,List.map_replicate,List.map_replicate,List.map_replicate,List.length_replicate]
 rw [List.take_append_of_le_length (by simp),List.take_of_length_le (by simp),List.drop_append,List.drop_of_length_le (by simp),List.nil_append,List.length_replicate,List.drop_replicate,<- List.append_assoc,List.replicate_append_replicate]
 rw [show N - n - (n+m - n)=N - (n+m) by omega]
theorem Row.arr {w:World} {g:Nat} {l:List Int} (h:Row w g l):w.heap[g]? = some (.cells (ivs l).toArray 3 (0,0)):=h
theorem info3':(Tryz.prog.info? 3).map (fun x => x.size)=some 1:=by kernel_rfl
theorem rep_one (m:Nat) (z:Int) (v:Value) (h:v ∈ List.replicate m (Value.int .i64 z)):v.oneCell'=true:=by rw [(List.mem_replicate.1 h).2];rfl
set_option maxRecDepth 20000 in
set_option maxHeartbeats 1600000 in
theorem repeat_any (w:World) (b N:Nat) (z:Int) (hN:1<=N) (hN2:N<=1000) (hc:w.cell? ⟨b,0,none⟩=some (.int .i64 z)) :
  Calls Tryz.prog 185 #[.slice (some ⟨b,0,none⟩) 1 1,.int .i64 N] w fun e w' => ∃ g,e = .returned (.slice (some ⟨g,0,none⟩) N N) /\ w.heap.size<=g /\ Row w' g (List.replicate N z) /\ Below w.heap.size w w':=by
 have hbl:b < w.heap.size:=World.block_lt_of_cell? w _ hc
 obtain ⟨i0,hi,hz0,hz1,hz2⟩:=info_parts info3
 have hmk:∀ u:World,(Instr.makeSlice 23 (.int .i64 (N:Int)) (.int .i64 (N:Int))).run Tryz.prog u =
   .ok (.slice (some ⟨u.heap.size,0,none⟩) N N) (u.alloc (.cells (nums (List.replicate N 0)) 3)):=fun u => by
  have h:=run_make (P:=Tryz.prog) u 23 3 i0 (.int .i64 0) Tryz.underlying23 hi hz0 .i64 .i64 (N:Int) (N:Int) (by omega) (Int.le_refl _) (by rw [hz2];omega) (by omega)
  rw [hz1,Nat.mul_one,show (Value.int IntKind.i64 0).cells=#[Value.int .i64 0] from rfl,show ((N:Int)).toNat=N by omega,nums_made] at h
  exact h
 clear hi hz0 hz1 hz2
 have hrow0:Row (w.alloc (.cells (nums (List.replicate N 0)) 3)) w.heap.size (rp N z 0):=by rw [rp_zero];exact heap_alloc_new w _
 have HROW:=hid hrow0
 have HCC:Hid (∀ j v,[Value.int .i64 z][j]? = some v->(w.alloc (.cells (nums (List.replicate N 0)) 3)).cell? (Addr.add ⟨b,0,none⟩ j)=some v):=fun j v hj => by
  match j,hj with
  | 0,hj =>
   simp at hj
   subst hj
   show (w.alloc _).cell? ⟨b,0+0,none⟩=_
   rw [World.cell?_of_block (w:=w) (Below.heap_alloc _ _ _ hbl)]
   exact hc
 clear hrow0
 go_enter Tryz.func185,Tryz.ntmps185
 go_wp2_with (first | (go_at_call 195;refine (mul_any N hN2 _).mono ?_;rintro e w' ⟨rfl,rfl⟩) | (refine wpList_copy_splice rfl (.tmp 31) (.tmp 32) 23 23 rfl 3 Tryz.underlying23 info3' (some ⟨w.heap.size,0,none⟩) (some ⟨b,0,none⟩) N N 1 1 rfl rfl w.heap.size 0 (ivs (rp N z 0)) 3 HROW.out.arr [.int .i64 z] ?q1 (fun _ => ⟨rfl,_,rfl,HCC.out⟩) ?q2 ?q3 w.heap.size w ?q4 (Nat.le_refl _) ?_))
 case q1 => show 1=min 1 N;omega
 case q2 => simp [ivs,rp_length];omega
 case q3 => intro v hv;simp at hv;subst hv;rfl
 case q4 => exact (Below.refl _ _).alloc (Nat.le_refl _) _
 intro w2 hrow2 hb2
 have hrow2':Row w2 w.heap.size (rp N z 1):=by
  have e:=rp_splice N z 0 1 (by omega)
  rw [Nat.zero_add] at e
  have h2:=hrow2.out
  rw [show ([.int .i64 z]:List Value)=List.replicate 1 (.int .i64 z) from rfl,e] at h2
  exact h2
 have HR2:=hid hrow2'
 clear hrow2 hrow2' HROW HCC hmk
 go_wp2
 go_loopw [8] (fun i wr => ∃ n:Nat,1<=n /\ n<=N /\ i = .int .i64 n /\ Hid (Row wr w.heap.size (rp N z n)) /\ Below w.heap.size w wr) (fun i _ => N - (intOf i).toNat)
 case atStart => exact ⟨1,by omega,by omega,rfl,HR2,hb2⟩
 case round =>
  clear HR2 hb2
  obtain ⟨n,h1,hn,rfl,hR,hB⟩:=hrel
  by_cases hlt:n < N
  ·obtain ⟨m,hm⟩:∃ m,m=min n (N - n):=⟨_,rfl⟩
   have hm1:1<=m:=by omega
   have hm2:n+m<=N:=by omega
   have HM:=hid hm
   have HSRC:Hid (∀ j v,(List.replicate m (Value.int .i64 z))[j]? = some v->wr.drew.cell? (Addr.add ⟨w.heap.size,0,none⟩ j)=some v):=fun j v hj => by
    refine World.news_of_block (w:=wr.drew) (B:=w.heap.size) hR.out.arr j v ?_
    obtain ⟨hjm,hv⟩:=List.getElem?_eq_some_iff.1 hj
    simp only [List.length_replicate,List.getElem_replicate] at hjm hv
    subst hv
    unfold rp ivs
    simp only [List.map_append,List.map_replicate]
    rw [List.getElem?_append_left (by simp;omega),List.getElem?_replicate,if_pos (by omega)]
   have hNn:¬ N=n:=by omega
   have hcp:(Builtin.copy_ #[23,23] 3 #[.slice (some ⟨w.heap.size,n,none⟩) (N - n) (N - n),.slice (some ⟨w.heap.size,0,none⟩) n N]).run Tryz.prog wr.drew = .ok (.int .i64 (m:Int)) (wr.drew.setRow w.heap.size (nums (rp N z (n+m)))):=by
    have h:=run_copy_row Tryz.prog wr.drew 23 23 3 3 w.heap.size n (N - n) (N - n) ⟨w.heap.size,0,none⟩ n N (nums (rp N z n)) 3 (List.replicate m (Value.int .i64 z)) Tryz.underlying23 info3' hR.out (by rw [List.length_replicate,hm]) HSRC.out (by rw [List.length_replicate,nums_size,rp_length _ _ _ hn];exact hm2) (rep_one m z)
    have e:=rp_splice N z n m hm2
    unfold splice at e
    rw [<- List.append_assoc] at e
    have e2:(nums (rp N z n)).toList=ivs (rp N z n):=rfl
    rw [e2,e,List.length_replicate] at h
    exact h
   clear hm
   go_wp2
   go_region
   all_goals
    go_wp2
    refine ⟨⟨n+m,by omega,hm2,int_eq (by omega),?_,below_setRow hB.drew (Nat.le_refl _) _⟩,by simp [intOf];omega⟩
    exact setRow_heap wr.drew w.heap.size (nums (rp N z n)) _ 3 _ hR.out
  ·obtain rfl:n=N:=by omega
   have hR':=hR.out
   rw [rp_all] at hR'
   have HR':=hid hR'
   clear hR'
   go_wp2
   go_ret
   exact ⟨w.heap.size,rfl,Nat.le_refl _,HR'.out,hB⟩
set_option maxHeartbeats 800000 in
theorem rep_any (w:World) (N:Nat) (z:Int) (hN:1<=N) (hN2:N<=1000) :
  Calls Tryz.prog 160 #[.int .i64 z,.int .i64 N] w fun e w' => ∃ g,e = .returned (.slice (some ⟨g,0,none⟩) N N) /\ w.heap.size<=g /\ Row w' g (List.replicate N z) /\ Below w.heap.size w w':=by
 have HC:Hid ((w.alloc (.cells #[.int .i64 z] 3)).cell? ⟨w.heap.size,0,none⟩=some (.int .i64 z)):=by show _=_;simp
 go_enter Tryz.func160,Tryz.ntmps160
 go_wp2_with (go_at_call 185;refine (repeat_any _ w.heap.size N z hN hN2 HC.out).mono ?_;rintro e w1 ⟨g,rfl,hg,hR,hB⟩)
 go_ret
 have hsz:w.heap.size<=g:=by simp at hg;omega
 exact ⟨g,rfl,hsz,hR,((Below.refl _ _).alloc (Nat.le_refl _) _).trans (hB.mono (by simp))⟩
set_option maxHeartbeats 800000 in
theorem fixedSteps_any (w:World) :
  Calls Tryz.prog 113 #[] w fun e w' => ∃ g,e = .returned (.slice (some ⟨g,0,none⟩) 32 32) /\ w.heap.size<=g /\ Row w' g zfb /\ Below w.heap.size w w':=by
 have HR:=hid (fun u => rep_any u 32 5 (by omega) (by omega))
 go_enter Tryz.func113,Tryz.ntmps113
 go_wp2_with (go_at_call 160;refine (HR.out _).mono ?_;rintro e w1 ⟨g,rfl,hg,hR,hB⟩)
 go_ret
 exact ⟨g,rfl,hg,hR,hB⟩
end Go.Proofs.YthdmjmnkhlpnnabGreatDoor
namespace Go.Proofs.YthdmjmnkhlpnnabGreatDoor
open Go.RowKit
theorem seg_news {w:World} {a:Addr} {zs:List Int} (h:Seg w (some a) zs):∀ j u,(zs.map (Value.int .i64))[j]? = some u->w.cell? (a.add j)=some u:=by
 intro j u hu
 have hj:j < zs.length:=by
  rcases Nat.lt_or_ge j zs.length with h | h
  ·exact h
  ·rw [List.getElem?_eq_none (by simpa using h)] at hu;cases hu
 obtain ⟨b,off,e,hc⟩:=h (by omega)
 injection e with e
 subst e
 have e2:(⟨b,off,none⟩:Addr).add j=⟨b,off+j,none⟩:=by unfold Addr.add;split <;> simp_all
 rw [e2,hc j hj]
 simp [hj] at hu
 simp [hj,hu]
theorem nums_oneCell (zs:List Int):∀ u ∈ zs.map (Value.int .i64),u.oneCell'=true:=by
 intro u hu
 simp at hu
 obtain ⟨z,_,rfl⟩:=hu
 rfl
set_option maxHeartbeats 800000 in
theorem grow_any (k:Nat) (h0:0 < k) (hk:k<=100000000) (w:World) :
  Calls Tryz.prog 184 #[.slice none 0 0,.int .i64 k] w fun e w' => ∃ g cap,e = .returned (.slice (some ⟨g,0,none⟩) 0 cap) /\ w'.ownsRow w.heap.size 3 1 (.slice (some ⟨g,0,none⟩) 0 cap) 0 [] /\ k<=cap /\ Below w.heap.size w w':=by
 have hb8:Tryz.t3.bytes=8:=by kernel_rfl
 have hnc:Builtin.nextslicecap k 0=k:=nextslicecap_zero h0
 go_enter Tryz.func184,Tryz.ntmps184
 go_wp2
 go_ret
 have hge:=grownCap_ge w k 0 3
 have hle:=grownCap_le_maxLen w k 0 3 (by unfold maxLen;omega)
 refine ⟨w.heap.size,grownCap w k 0 3,rfl,?_,hge,?_⟩
 ·refine ⟨rfl,.inr ⟨w.heap.size,grownCap w k 0 3,_,rfl,Nat.le_refl _,heap_alloc_new w.drew _,by omega,hle,?_,by simp⟩⟩
  simp [size_zeroCells]
  unfold grownCap at hge ⊢
  omega
 ·exact ((Below.refl _ _).drew).alloc (Nat.le_refl _) _
set_option maxRecDepth 20000 in
set_option maxHeartbeats 4000000 in
theorem concat4_any {w:World} {b:Nat} (a1 a2 a3 a4:Addr) (c1 c2 c3 c4:Nat) (x1 x2 x3 x4:List Int) (h1:Seg w (some a1) x1) (h2:Seg w (some a2) x2) (h3:Seg w (some a3) x3) (h4:Seg w (some a4) x4) (hx:0 < x1.length) (l1:x1.length<=1000) (l2:x2.length<=1000) (l3:x3.length<=1000) (l4:x4.length<=1000)
  (k0:w.cell? ⟨b,0,none⟩=some (.slice (some a1) x1.length c1)) (k1:w.cell? ⟨b,1,none⟩=some (.slice (some a2) x2.length c2)) (k2:w.cell? ⟨b,2,none⟩=some (.slice (some a3) x3.length c3)) (k3:w.cell? ⟨b,3,none⟩=some (.slice (some a4) x4.length c4)) :
  Calls Tryz.prog 159 #[.slice (some ⟨b,0,none⟩) 4 4] w fun e w' => ∃ v,e = .returned v /\ w'.ownsRow w.heap.size 3 1 v (x1.length+x2.length+x3.length+x4.length) (ivs (x1 ++ x2 ++ x3 ++ x4)) /\ Below w.heap.size w w':=by
 obtain ⟨i0,hi,hz0,hz1,hz2⟩:=info_parts info3
 have H1:=hid h1
 have H2:=hid h2
 have H3:=hid h3
 have H4:=hid h4
 clear h1 h2 h3 h4
 go_enter Tryz.func159,Tryz.ntmps159
 go_wp2
 refine wp_loop_rounds 5 ?_
 rw [rounds_succ]
 go_wp2_with fail
 rw [rounds_succ]
 go_wp2_with fail
 rw [rounds_succ]
 go_wp2_with fail
 rw [rounds_succ]
 go_wp2_with fail
 rw [rounds_succ]
 go_wp2_with fail
 have hk:(x1.length:Int)+(x2.length:Int)+(x3.length:Int)+(x4.length:Int)=((x1.length+x2.length+x3.length+x4.length:Nat):Int):=by omega
 rw [hk]
 clear hk
 refine (grow_any (x1.length+x2.length+x3.length+x4.length) (by omega) (by omega) _).mono ?_
 rintro e w1 ⟨g,cap,rfl,hown,hcap,hb1⟩
 have HO0:=hid hown
 have Hb0:=hid hb1
 have hbl:b < w.heap.size:=World.block_lt_of_cell? w _ k0
 have hg0:=(hown.lt g rfl).1
 have KK:Hid (∀ u:World,Below w.heap.size w u->u.cell? ⟨b,0,none⟩=some (.slice (some a1) x1.length c1) /\ u.cell? ⟨b,1,none⟩=some (.slice (some a2) x2.length c2) /\ u.cell? ⟨b,2,none⟩=some (.slice (some a3) x3.length c3) /\ u.cell? ⟨b,3,none⟩=some (.slice (some a4) x4.length c4)):=fun u hu => ⟨(hu.cell (p:=⟨b,0,none⟩) hbl).trans k0,(hu.cell (p:=⟨b,1,none⟩) hbl).trans k1,(hu.cell (p:=⟨b,2,none⟩) hbl).trans k2,(hu.cell (p:=⟨b,3,none⟩) hbl).trans k3⟩
 obtain ⟨q0,q1,q2,q3⟩:=KK.out _ hb1
 clear hown hb1 k0 k1 k2 k3 q1 q2 q3
 go_wp2
 refine wp_loop_rounds 5 ?_
 rw [rounds_succ]
 go_wp2_with (at_builtin;refine wpList_append_fits _ rfl (.tmp 31) (.tmp 32) 23 rfl w.heap.size 3 i0 1 Tryz.underlying23 hi hz1 g (0) cap ([]) rfl HO0.out a1 x1.length c1 (x1.map (Value.int .i64)) rfl ?p11 (seg_news (H1.out.below Hb0.out)) (nums_oneCell x1) ?p12 ?_)
 case p11 => simp
 case p12 => omega
 intro w2 hown2 hgrow2
 have hb2:Below w.heap.size w w2:=Hb0.out.grown hgrow2 Hb0.out.size (fun k hk => by injection hk with hk;omega)
 have Hb1:=hid hb2
 have HO1:Hid (w2.ownsRow w.heap.size 3 1 (.slice (some ⟨g,0,none⟩) (x1.length) cap) (x1.length) (ivs x1)):=by
  show World.ownsRow _ _ _ _ _ _ _
  exact hown2
 obtain ⟨r0,r1,r2,r3⟩:=KK.out _ hb2
 clear hown2 hgrow2 hb2 q0
 have s1:=r1
 clear r0 r1 r2 r3
 go_wp2_with fail
 rw [rounds_succ]
 go_wp2_with (at_builtin;refine wpList_append_fits _ rfl (.tmp 31) (.tmp 32) 23 rfl w.heap.size 3 i0 1 Tryz.underlying23 hi hz1 g (x1.length) cap (ivs x1) rfl HO1.out a2 x2.length c2 (x2.map (Value.int .i64)) rfl ?p21 (seg_news (H2.out.below Hb1.out)) (nums_oneCell x2) ?p22 ?_)
 case p21 => simp
 case p22 => omega
 intro w3 hown3 hgrow3
 have hb3:Below w.heap.size w w3:=Hb1.out.grown hgrow3 Hb1.out.size (fun k hk => by injection hk with hk;omega)
 have Hb2:=hid hb3
 have HO2:Hid (w3.ownsRow w.heap.size 3 1 (.slice (some ⟨g,0,none⟩) (x1.length+x2.length) cap) (x1.length+x2.length) (ivs (x1 ++ x2))):=by
  show World.ownsRow _ _ _ _ _ _ _
  rw [show ivs (x1 ++ x2)=ivs x1 ++ List.map (Value.int .i64) x2 from List.map_append]
  exact hown3
 obtain ⟨r0,r1,r2,r3⟩:=KK.out _ hb3
 clear hown3 hgrow3 hb3 s1
 have s2:=r2
 clear r0 r1 r2 r3
 go_wp2_with fail
 rw [rounds_succ]
 go_wp2_with (at_builtin;refine wpList_append_fits _ rfl (.tmp 31) (.tmp 32) 23 rfl w.heap.size 3 i0 1 Tryz.underlying23 hi hz1 g (x1.length+x2.length) cap (ivs (x1 ++ x2)) rfl HO2.out a3 x3.length c3 (x3.map (Value.int .i64)) rfl ?p31 (seg_news (H3.out.below Hb2.out)) (nums_oneCell x3) ?p32 ?_)
 case p31 => simp
 case p32 => omega
 intro w4 hown4 hgrow4
 have hb4:Below w.heap.size w w4:=Hb2.out.grown hgrow4 Hb2.out.size (fun k hk => by injection hk with hk;omega)
 have Hb3:=hid hb4
 have HO3:Hid (w4.ownsRow w.heap.size 3 1 (.slice (some ⟨g,0,none⟩) (x1.length+x2.length+x3.length) cap) (x1.length+x2.length+x3.length) (ivs (x1 ++ x2 ++ x3))):=by
  show World.ownsRow _ _ _ _ _ _ _
  rw [show ivs (x1 ++ x2 ++ x3)=List.map (Value.int .i64) x1 ++ (List.map (Value.int .i64) x2 ++ List.map (Value.int .i64) x3) by simp only [ivs,List.map_append,List.append_assoc]]
  exact hown4
 obtain ⟨r0,r1,r2,r3⟩:=KK.out _ hb4
 clear hown4 hgrow4 hb4 s2
 have s3:=r3
 clear r0 r1 r2 r3
 go_wp2_with fail
 rw [rounds_succ]
 go_wp2_with (at_builtin;refine wpList_append_fits _ rfl (.tmp 31) (.tmp 32) 23 rfl w.heap.size 3 i0 1 Tryz.underlying23 hi hz1 g (x1.length+x2.length+x3.length) cap (ivs (x1 ++ x2 ++ x3)) rfl HO3.out a4 x4.length c4 (x4.map (Value.int .i64)) rfl ?p41 (seg_news (H4.out.below Hb3.out)) (nums_oneCell x4) ?p42 ?_)
 case p41 => simp
 case p42 => omega
 intro w5 hown5 hgrow5
 have hb5:Below w.heap.size w w5:=Hb3.out.grown hgrow5 Hb3.out.size (fun k hk => by injection hk with hk;omega)
 have Hb4:=hid hb5
 have HO4:Hid (w5.ownsRow w.heap.size 3 1 (.slice (some ⟨g,0,none⟩) (x1.length+x2.length+x3.length+x4.length) cap) (x1.length+x2.length+x3.length+x4.length) (ivs (x1 ++ x2 ++ x3 ++ x4))):=by
  show World.ownsRow _ _ _ _ _ _ _
  rw [show ivs (x1 ++ x2 ++ x3 ++ x4)=List.map (Value.int .i64) x1 ++ (List.map (Value.int .i64) x2 ++ (List.map (Value.int .i64) x3 ++ List.map (Value.int .i64) x4)) by simp only [ivs,List.map_append,List.append_assoc]]
  exact hown5
 clear hown5 hgrow5 hb5 s3
 go_wp2_with fail
 rw [rounds_succ]
 go_wp2
 go_ret
 exact ⟨_,rfl,HO4.out,Hb4.out⟩
theorem Row.below {w w':World} {g:Nat} {l:List Int} (h:Row w g l) (hb:Below w.heap.size w w'):Row w' g l:=by
 unfold Row
 rw [hb.block g h.lt]
 exact h
theorem zfa_length:zfa.length=288:=by unfold zfa;rw [List.length_append,List.length_append,List.length_append,List.length_replicate,List.length_replicate,List.length_replicate,List.length_replicate]
theorem zfb_length:zfb.length=32:=by unfold zfb;rw [List.length_replicate]
theorem zfa_ok:zfa.any nl=false:=by decide +kernel
theorem zfb_ok:zfb.any nl=false:=by decide +kernel
theorem concat4_at {w:World} {b:Nat} (a1 a2 a3 a4:Addr) (c1 c2 c3 c4 n1 n2 n3 n4:Nat) (x1 x2 x3 x4:List Int) (e1:x1.length=n1) (e2:x2.length=n2) (e3:x3.length=n3) (e4:x4.length=n4) (h1:Seg w (some a1) x1) (h2:Seg w (some a2) x2) (h3:Seg w (some a3) x3) (h4:Seg w (some a4) x4) (hx:0 < n1) (l1:n1<=1000) (l2:n2<=1000) (l3:n3<=1000) (l4:n4<=1000)
  (k0:w.cell? ⟨b,0,none⟩=some (.slice (some a1) n1 c1)) (k1:w.cell? ⟨b,1,none⟩=some (.slice (some a2) n2 c2)) (k2:w.cell? ⟨b,2,none⟩=some (.slice (some a3) n3 c3)) (k3:w.cell? ⟨b,3,none⟩=some (.slice (some a4) n4 c4)) :
  Calls Tryz.prog 159 #[.slice (some ⟨b,0,none⟩) 4 4] w fun e w' => ∃ v,e = .returned v /\ w'.ownsRow w.heap.size 3 1 v (n1+n2+n3+n4) (ivs (x1 ++ x2 ++ x3 ++ x4)) /\ Below w.heap.size w w':=by
 subst e1 e2 e3 e4
 exact concat4_any a1 a2 a3 a4 c1 c2 c3 c4 x1 x2 x3 x4 h1 h2 h3 h4 hx l1 l2 l3 l4 k0 k1 k2 k3
theorem own_mono {w:World} {base base' n:Nat} {e size:Nat} {v:Value} {xs:List Value} (h:w.ownsRow base e size v n xs) (hb:base'<=base):w.ownsRow base' e size v n xs:=by
 obtain ⟨h1,h2⟩:=h
 refine ⟨h1,?_⟩
 rcases h2 with h2 | ⟨g,cap,cur,hv,hg,r⟩
 ·exact Or.inl h2
 ·exact Or.inr ⟨g,cap,cur,hv,by omega,r⟩
set_option maxRecDepth 20000 in
set_option maxHeartbeats 1600000 in
theorem fixedLetters_any (w:World) :
  Calls Tryz.prog 112 #[] w fun e w' => ∃ v,e = .returned v /\ w'.ownsRow w.heap.size 3 1 v 288 (ivs zfa) /\ Below w.heap.size w w':=by
 have HR:=hid (fun u N z h1 h2 => rep_any u N z h1 h2)
 go_enter Tryz.func112,Tryz.ntmps112
 go_wp2_with (first
   | (go_at_call 160;have f1:=r3;refine (HR.out _ 8 8 (by omega) (by omega)).mono ?_;rintro e w4 ⟨g4,rfl,hg4,r4,hb4⟩)
   | (go_at_call 160;have f1:=r2;refine (HR.out _ 24 7 (by omega) (by omega)).mono ?_;rintro e w3 ⟨g3,rfl,hg3,r3,hb3⟩;clear f1)
   | (go_at_call 160;have f1:=r1;refine (HR.out _ 112 9 (by omega) (by omega)).mono ?_;rintro e w2 ⟨g2,rfl,hg2,r2,hb2⟩;clear f1)
   | (go_at_call 160;refine (HR.out _ 144 8 (by omega) (by omega)).mono ?_;rintro e w1 ⟨g1,rfl,hg1,r1,hb1⟩))
 have b12:Below w.heap.size w w2:=hb1.trans (hb2.mono hb1.size)
 have b13:Below w.heap.size w w3:=b12.trans (hb3.mono b12.size)
 have b14:Below w.heap.size w w4:=b13.trans (hb4.mono b13.size)
 obtain ⟨o,ho⟩:∃ o:Obj,o=Obj.cells #[Value.slice (some { block:=g1,off:=0 }) 144 144,Value.slice (some { block:=g2,off:=0 }) 112 112,Value.slice (some { block:=g3,off:=0 }) 24 24,Value.slice (some { block:=g4,off:=0 }) 8 8] 23:=⟨_,rfl⟩
 rw [<- ho]
 have R4:=(r4.below ((Below.refl _ _).alloc (Nat.le_refl _) o)).seg
 have R3:=((r3.below hb4).below ((Below.refl _ _).alloc (Nat.le_refl _) o)).seg
 have R2:=(((r2.below hb3).below hb4).below ((Below.refl _ _).alloc (Nat.le_refl _) o)).seg
 have R1:=((((r1.below hb2).below hb3).below hb4).below ((Below.refl _ _).alloc (Nat.le_refl _) o)).seg
 refine (concat4_at ⟨g1,0,none⟩ ⟨g2,0,none⟩ ⟨g3,0,none⟩ ⟨g4,0,none⟩ 144 112 24 8 144 112 24 8 _ _ _ _ List.length_replicate List.length_replicate List.length_replicate List.length_replicate R1 R2 R3 R4 (by omega) (by omega) (by omega) (by omega) (by omega) (by rw [ho];simp) (by rw [ho];simp) (by rw [ho];simp) (by rw [ho];simp)).mono ?_
 rintro e w5 ⟨v,rfl,hown,hb5⟩
 have HOWN:=hid hown
 have hz:(w4.alloc o).heap.size=w4.heap.size+1:=by simp
 have b15:Below w.heap.size w w5:=(b14.alloc b14.size o).trans (hb5.mono (by rw [hz];have:=b14.size;omega))
 have hs4:=b14.size
 clear R1 R2 R3 R4 r1 r2 r3 r4 hb1 hb2 hb3 hb4 hb5 hown ho f1
 go_wp2
 go_ret
 exact ⟨v,rfl,own_mono HOWN.out (by rw [hz];omega),b15⟩
end Go.Proofs.YthdmjmnkhlpnnabGreatDoor
namespace Go.Proofs.YthdmjmnkhlpnnabGreatDoor
open Go.RowKit
section
variable {w w':World}
theorem below_N {w:World} (n:Nat):Below w.heap.size w (w.drewN n):=below_drewN' (Below.refl _ _) n
theorem owns_shape {w:World} {base:Nat} {e:TypeId} {size:Nat} {v:Value} {n:Nat} {xs:List Value} (h:w.ownsRow base e size v n xs):∃ ao c,v = .slice ao n c /\ (ao=none->n=0 /\ c=0):=by
 rcases h.2 with ⟨rfl,rfl⟩ | ⟨g,cap,cur,rfl,_⟩
 ·exact ⟨none,0,rfl,fun _ => ⟨rfl,rfl⟩⟩
 ·exact ⟨some ⟨g,0,none⟩,cap,rfl,fun h => by cases h⟩
theorem owns_mono {base base':Nat} {e:TypeId} {size:Nat} {v:Value} {n:Nat} {xs:List Value} (h:w.ownsRow base e size v n xs) (hb:base'<=base):w.ownsRow base' e size v n xs:=by
 refine ⟨h.1,?_⟩
 rcases h.2 with hn | ⟨g,cap,cur,rfl,hb',rest⟩
 ·exact .inl hn
 ·exact .inr ⟨g,cap,cur,rfl,by omega,rest⟩
theorem owns_type {base:Nat} {e e':TypeId} {size:Nat} {v:Value} {n:Nat} {xs:List Value} (h:w.ownsRow base e size v n xs) {k:Nat} {cur:Array Value} {fr:Nat × Nat} (hk:w.heap[k]? = some (.cells cur e' fr)) (hne:e ≠ e'):v.ownBlock ≠ some k:=by
 intro hv
 rcases h.2 with ⟨rfl,_⟩ | ⟨g,cap,cur',rfl,_,hg,_⟩
 ·simp [Value.ownBlock] at hv
 ·simp [Value.ownBlock] at hv
  subst hv
  rw [hg] at hk
  injection hk with hk
  injection hk with _ h2 _
  exact hne h2
theorem owns_kept {base:Nat} {e:TypeId} {size:Nat} {v:Value} {n:Nat} {xs:List Value} (h:w.ownsRow base e size v n xs) (hk:∀ k,v.ownBlock=some k->w'.heap[k]? = w.heap[k]?):w'.ownsRow base e size v n xs:=by
 refine ⟨h.1,?_⟩
 rcases h.2 with hn | ⟨g,cap,cur,rfl,hb,hgg,rest⟩
 ·exact .inl hn
 ·exact .inr ⟨g,cap,cur,rfl,hb,by rw [hk g rfl];exact hgg,rest⟩
theorem cells_new (w:World) (cs:Array Value) (t:TypeId):∀ j u,cs.toList[j]? = some u->(w.alloc (.cells cs t)).cell? ((⟨w.heap.size,0,none⟩:Addr).add j)=some u:=by
 intro j u hu
 have e:(⟨w.heap.size,0,none⟩:Addr).add j=⟨w.heap.size,j,none⟩:=by unfold Addr.add;split <;> simp_all
 rw [e,cell_of_row _ w.heap.size j cs t (0,0) (heap_alloc_new w _)]
 simpa using hu
theorem own_cut (ga:Option Addr) (n c n' c':Nat):(Value.slice ga n c).ownBlock=(Value.slice ga n' c').ownBlock:=by cases ga <;> rfl
theorem Seg.drewN {w:World} {ao:Option Addr} {zs:List Int} (h:Seg w ao zs) (n:Nat):Seg (w.drewN n) ao zs:=by
 intro h0
 obtain ⟨b,off,e,hc⟩:=h h0
 exact ⟨b,off,e,fun j hj => by simpa using hc j hj⟩
end
section
variable {P:Program} (w:World)
theorem wpList_append_track {ops:Array Oper} {rest:List Oper} {o:Oper} {a:Act} {Q:Exit->Act->World->Prop} (hgd:o.guard=none) (s x:Operand) (t:TypeId)
  (ho:o.op = .call { callee:=.builtin .append,args:=#[s,x],argTypes:=#[t,t] })
  (base:Nat) (e:TypeId) (i:TypeInfo) (z:Value) (size bytes:Nat) (ht:P.underlying t=some (.slice e)) (hi:P.info? e=some i) (hz:i.zero=some z)
  (hsize:i.size=size) (hby:i.bytes=bytes) (hzs:z.cells.size=size) (hsz:0 < size)
  (v:Value) (n:Nat) (xs:List Value) (hs:a.eval s=v) (hown:w.ownsRow base e size v n xs)
  (ad:Addr) (m c:Nat) (news:List Value) (hx:a.eval x = .slice (some ad) m c) (hl:news.length=m*size) (hnews:∀ j u,news[j]? = some u->w.cell? (ad.add j)=some u) (h1:∀ u ∈ news,u.oneCell'=true)
  (h63:n+m<=maxLen) (hbytes:(n+m)*bytes<=140737488355328) (hbase:base<=w.heap.size)
  (h:∀ v' w',w'.ownsRow base e size v' (n+m) (xs ++ news)->w.grownBy w' v.ownBlock->(v'.ownBlock=v.ownBlock ∨ ∀ k,v'.ownBlock=some k->w.heap.size<=k)->wpList P ops Q rest (a.put o.dst v') w'):wpList P ops Q (o :: rest) a w:=by
 have hc:=hown.2
 rcases hc with ⟨rfl,rfl⟩ | ⟨g,cap,cur,rfl,hb,hg,hnc,hcm,hcs,htake⟩
 ·have hxs:xs=[]:=List.eq_nil_of_length_eq_zero (by simpa using hown.1)
  subst hxs
  refine wpList_append_own w hgd s x t ho w.heap.size e i z size bytes ht hi hz hsize hby hzs hsz _ 0 [] hs (World.ownsRow_nil _ _ _ _) ad m c news hx hl hnews h1 h63 hbytes (Nat.le_refl _) fun v' w' h2 h3 _ => ?_
  exact h v' w' (owns_mono h2 hbase) h3 (.inr fun k hk => (h2.lt k hk).1)
 ·by_cases hroom:n+m<=cap
  ·exact wpList_append_fits w hgd s x t ho base e i size ht hi hsize g n cap xs hs hown ad m c news hx hl hnews h1 hroom fun w' h2 h3 => h _ w' h2 h3 (.inl rfl)
  ·refine wpList_append_grows w hgd s x t ho e i z size bytes ht hi hz hsize hby hzs hsz (some ⟨g,0,none⟩) n cap xs hs (fun h => by cases h) hown.1 (fun b hb' => ?_) ad m c news hx hl hnews h1 (by omega) h63 hbytes fun v' w' h2 h3 => ?_
   ·injection hb' with hb'
    subst hb'
    exact hown.cells (g:=g) rfl
   ·exact h v' w' (owns_mono h2 hbase) ⟨h3.os,h3.tape,h3.output,h3.size,fun k hk _ => h3.block k hk (by simp)⟩ (.inr fun k hk => (h2.lt k hk).1)
end
end Go.Proofs.YthdmjmnkhlpnnabGreatDoor
namespace Go.Proofs.YthdmjmnkhlpnnabGreatDoor
open Go.RowKit Go.Maps
theorem infoPlace:(Tryz.prog.info? 239).map (fun i => (i.zero,i.size,i.bytes))=some (some (.agg #[.int .u8 0,.int .u8 0,.int .u8 0,.int .i64 0]),4,16):=by kernel_rfl
structure Pl3 where
 a:Nat
 b:Nat
 c:Nat
 bf:Int
def pc4 (p:Pl3):List Value:=[.int .u8 p.a,.int .u8 p.b,.int .u8 p.c,.int .i64 p.bf]
def fl4 (ps:List Pl3):List Value:=ps.flatMap pc4
theorem fl4_append (a b:List Pl3):fl4 (a ++ b)=fl4 a ++ fl4 b:=by simp [fl4]
theorem fl4_length (a:List Pl3):(fl4 a).length=a.length*4:=by
 induction a with
 | nil => rfl
 | cons x a ih => show (pc4 x ++ fl4 a).length=_;rw [List.length_append,ih];simp [pc4];omega
theorem fl4_get (q:List Pl3) (j:Nat) (r:Pl3) (h:q[j]? = some r):(fl4 q)[j*4]? = some (.int .u8 r.a) /\ (fl4 q)[j*4+1]? = some (.int .u8 r.b) /\ (fl4 q)[j*4+2]? = some (.int .u8 r.c) /\ (fl4 q)[j*4+3]? = some (.int .i64 r.bf):=by
 induction q generalizing j with
 | nil => simp at h
 | cons x q ih =>
  cases j with
  | zero => simp at h;subst h;exact ⟨rfl,rfl,rfl,rfl⟩
  | succ j =>
   have:=ih j (by simpa using h)
   rw [show (j+1)*4=j*4+4 by omega,show j*4+4+1=j*4+1+4 by omega,show j*4+4+2=j*4+2+4 by omega,show j*4+4+3=j*4+3+4 by omega]
   exact this
structure Tbl (w:World) (T base nx:Nat) (ps:List Pl3) (M:Nat) (D:DataW Unit) (pv:Value):Prop where
 blk:w.heap[T]? = some (.cells #[.int .i64 32768,.int .i64 nx,.map (some M),pv] 181 (0,0))
 row:w.ownsRow base 239 4 pv ps.length (fl4 ps)
 map:w.ownsMap Tryz.prog 136 (plainElem Tryz.prog 3) M nx D
structure Fr (O:Nat->Prop) (w w':World):Prop where
 env:Below 0 w w'
 blk:∀ k,k < w.heap.size -> ¬ O k->w'.heap[k]? = w.heap[k]?
theorem Fr.refl (O:Nat->Prop) (w:World):Fr O w w:=⟨Below.refl _ _,fun _ _ _ => rfl⟩
theorem Fr.below {O:Nat->Prop} {a w w':World} (h:Fr O a w) (hb:Below w.heap.size w w'):Fr O a w' :=
 ⟨h.env.trans (hb.mono (by omega)),fun k hk ho => (hb.block k (by have:=h.env.size;omega)).trans (h.blk k hk ho)⟩
theorem Fr.set {O:Nat->Prop} {a w:World} (h:Fr O a w) (p:Addr) (hp:O p.block) (v:Value):Fr O a (w.setCell p v) :=
 ⟨h.env.setCell (by omega) v,fun k hk ho => by rw [Below.heap_setCell _ _ _ _ (fun e => ho (by rw [e];exact hp))];exact h.blk k hk ho⟩
theorem Fr.grown {O:Nat->Prop} {a w w':World} {row:Option Nat} (h:Fr O a w) (hg:w.grownBy w' row) (hr:∀ k,row=some k->O k):Fr O a w' :=
 ⟨h.env.grown hg (by omega) (fun _ _ => by omega),fun k hk ho => (hg.block k (by have:=h.env.size;omega) (fun e => ho (hr k e.symm))).trans (h.blk k hk ho)⟩
def TbO (T M:Nat) (pv:Value) (k:Nat):Prop:=k=T ∨ k=M ∨ some k=pv.ownBlock
variable {w:World} {T base nx:Nat} {ps:List Pl3} {M:Nat} {D:DataW Unit} {pv:Value}
theorem Tbl.lt (h:Tbl w T base nx ps M D pv):T < w.heap.size:=(Array.getElem?_eq_some_iff.1 h.blk).1
theorem Tbl.cells (h:Tbl w T base nx ps M D pv):w.cell? ⟨T,0,none⟩=some (.int .i64 32768) /\ w.cell? ⟨T,1,none⟩=some (.int .i64 nx) /\ w.cell? ⟨T,2,none⟩=some (.map (some M)) /\ w.cell? ⟨T,3,none⟩=some pv:=by
 have e:=fun j => cell_of_row w T j _ _ (0,0) h.blk
 exact ⟨by rw [e];rfl,by rw [e];rfl,by rw [e];rfl,by rw [e];rfl⟩
theorem Tbl.free (h:Tbl w T base nx ps M D pv) (j:Nat):w.frozen? ⟨T,j,none⟩=false:=by have:=h.blk;simp [World.frozen?,this]
theorem Tbl.below {w':World} (h:Tbl w T base nx ps M D pv) (hb:Below w.heap.size w w'):Tbl w' T base nx ps M D pv:=by
 refine ⟨(hb.block T h.lt).trans h.blk,owns_kept h.row (fun k hk => hb.block k (h.row.lt k hk).2),?_⟩
 have hl:=h.map.lt
 obtain ⟨es,clock,hm,F,hs,hD⟩:=h.map
 exact ⟨es,clock,(hb.block M hl).trans hm,F,hs,hD⟩
theorem Tbl.push_blk (h:Tbl w T base nx ps M D pv) {sv:Value} (e:pv=sv) {o:Obj} {w1:World} (hg:((w.alloc o).drew).grownBy w1 sv.ownBlock):w1.heap[T]? = w.heap[T]?:=by
 have hne:pv.ownBlock ≠ some T:=owns_type h.row h.blk (by decide)
 subst e
 have hl:=h.lt
 rw [hg.block T (by show T < (w.alloc o).heap.size;simp;omega) (fun e => hne e.symm)]
 exact Below.heap_alloc _ _ _ hl
theorem Tbl.push_map (h:Tbl w T base nx ps M D pv) {sv:Value} (e:pv=sv) {o:Obj} {w1:World} (hg:((w.alloc o).drew).grownBy w1 sv.ownBlock):w1.heap[M]? = w.heap[M]?:=by
 have hl:=h.map.lt
 subst e
 have hne:pv.ownBlock ≠ some M:=fun e => by
  obtain ⟨es,clock,hm,_⟩:=h.map
  rcases h.row.2 with ⟨rfl,_⟩ | ⟨g,cap,cur,rfl,_,hh,_⟩
  ·simp [Value.ownBlock] at e
  ·simp [Value.ownBlock] at e
   subst e
   rw [hm] at hh
   cases hh
 rw [hg.block M (by show M < (w.alloc o).heap.size;simp;omega) (fun e => hne e.symm)]
 exact Below.heap_alloc _ _ _ hl
set_option maxRecDepth 20000 in
set_option maxHeartbeats 2000000 in
theorem tput_few (h:Tbl w T base nx ps M D pv) (hT:base<=w.heap.size) (hl:ps.length < 32768) (p:Pl3) :
  Calls Tryz.prog 192 #[.pointer (some ⟨T,0,none⟩),.agg #[.int .u8 p.a,.int .u8 p.b,.int .u8 p.c,.int .i64 p.bf]] w fun e w' => e = .returned (.tuple #[]) /\ ∃ pv',Tbl w' T base nx (ps ++ [p]) M D pv' /\ Fr (TbO T M pv) w w' /\ Moved pv pv' w:=by
 obtain ⟨i0,hi0,hz0,hz1,hz2⟩:=info_parts infoPlace
 have HH:=hid h
 obtain ⟨ia,ic,hiv,_⟩:=owns_shape h.row
 obtain ⟨c0,c1,c2,c3⟩:=h.cells
 rw [hiv] at c3
 have f3:=h.free 3
 have hlt:=h.lt
 have d1:decide ((ps.length:Int) < 32768)=true:=by simp;omega
 have HIV:=hid hiv
 clear h hiv
 go_enter Tryz.func192,Tryz.ntmps192
 go_upto_region 1 with fail
 go_quiet (fail)
 go_upto_region 2 with fail
 have HB1:=hid (below_drewN' ((Below.refl w.heap.size w).alloc (Nat.le_refl _) (.cells #[.int .u8 p.a,.int .u8 p.b,.int .u8 p.c,.int .i64 p.bf] 239)) nq)
 have HN1:Hid (((w.alloc (.cells #[.int .u8 p.a,.int .u8 p.b,.int .u8 p.c,.int .i64 p.bf] 239)).drewN nq).heap[w.heap.size]? = some (.cells #[.int .u8 p.a,.int .u8 p.b,.int .u8 p.c,.int .i64 p.bf] 239 (0,0))):=heap_alloc_new w _
 obtain ⟨D0,hD0⟩:∃ x,x=w.heap.size:=⟨_,rfl⟩
 rw [<- hD0] at HN1 ⊢
 have HD0:=hid hD0
 clear hD0 c0 c1 c2 c3 f3
 generalize (w.alloc (.cells #[.int .u8 p.a,.int .u8 p.b,.int .u8 p.c,.int .i64 p.bf] 239)).drewN nq=W1 at HB1 HN1 ⊢
 have HH1:=hid (HH.out.below HB1.out)
 obtain ⟨c0,c1,c2,c3⟩:=HH1.out.cells
 rw [HIV.out] at c3
 have f3:=HH1.out.free 3
 have b0:W1.cell? ⟨D0,0,none⟩=some (.int .u8 p.a):=by rw [cell_of_row _ _ 0 _ _ _ HN1.out];rfl
 have b1:W1.cell? ⟨D0,1,none⟩=some (.int .u8 p.b):=by rw [cell_of_row _ _ 1 _ _ _ HN1.out];rfl
 have b2:W1.cell? ⟨D0,2,none⟩=some (.int .u8 p.c):=by rw [cell_of_row _ _ 2 _ _ _ HN1.out];rfl
 have b3:W1.cell? ⟨D0,3,none⟩=some (.int .i64 p.bf):=by rw [cell_of_row _ _ 3 _ _ _ HN1.out];rfl
 have hown:=HH1.out.row
 rw [HIV.out] at hown
 have hlt1:=HH1.out.lt
 have hs1:=HB1.out.size
 have f3a:∀ o:Obj,(W1.alloc o).frozen? ⟨T,3,none⟩=false:=fun o => (World.frozen?_of_block (w:=W1) (Below.heap_alloc W1 o T hlt1)).trans f3
 go_region_law
  ((refine step_append_lies _ (by rfl) _ _ _ (by rfl) base 239 i0 _ 4 16 Tryz.underlying179 hi0 hz0 hz1 hz2 rfl (by omega) (.slice ia ps.length ic) ps.length (fl4 ps) (by rfl) ((hown.alloc _).drew)
      ⟨W1.heap.size,0,none⟩ 1 1 [.int .u8 p.a,.int .u8 p.b,.int .u8 p.c,.int .i64 p.bf] (by rfl) (by rfl) (by simpa using cells_new W1 #[.int .u8 p.a,.int .u8 p.b,.int .u8 p.c,.int .i64 p.bf] 239) (by simp [Value.oneCell'])
      (by omega) (by unfold maxLen;omega) (by omega) (by simp;omega) (W1.heap.size+1) (by simp) ?_;intro gg cap w1 hown1 hgrow hat hlt2;have c3':=(World.cell?_of_block (w:=W1) (a:=⟨T,3,none⟩) (HH1.out.push_blk HIV.out hgrow)).trans c3;have f3':=(World.frozen?_of_block (w:=W1) (a:=⟨T,3,none⟩) (HH1.out.push_blk HIV.out hgrow)).trans f3))
 all_goals
  go_wp2
  refine bodyPost_ret (results_none Tryz.results192 _ _ _) rfl ⟨rfl,.slice (some ⟨gg,0,none⟩) (ps.length+1) cap,?_,?_,?_⟩
  ·have hb1:w1.heap[T]? = _:=(HH1.out.push_blk HIV.out hgrow).trans HH1.out.blk
   have hm1:=HH1.out.push_map HIV.out hgrow
   have hne:(Value.slice (some ⟨gg,0,none⟩) (ps.length+1) cap).ownBlock ≠ some T:=owns_type hown1 hb1 (by decide)
   refine ⟨by rw [blk_set hb1];rfl,?_,?_⟩
   ·rw [fl4_append,List.length_append]
    exact owns_kept hown1 (fun k hk => Below.heap_setCell _ _ _ _ (fun e => hne (by rw [hk,e])))
   ·obtain ⟨es,clock,hm,F,hs,hD⟩:=HH1.out.map
    have hMT:M ≠ T:=fun e => by rw [e,HH1.out.blk] at hm;cases hm
    exact ⟨es,clock,(Below.heap_setCell _ _ _ _ (by exact hMT)).trans (hm1.trans hm),F,hs,hD⟩
  ·have hfr:=((Fr.refl (TbO T M pv) w).below HB1.out).below ((Below.refl W1.heap.size W1).alloc (Nat.le_refl _) (.cells #[.int .u8 p.a,.int .u8 p.b,.int .u8 p.c,.int .i64 p.bf] 239)).drew
   refine (hfr.grown hgrow (fun k hk => .inr (.inr ?_))).set ⟨T,3,none⟩ (.inl rfl) _
   rw [HIV.out,hk]
  ·rcases hat with hat | hat
   ·refine .inl ?_
    rw [HIV.out,hat]
    rfl
   ·exact .inr ⟨gg,by have:=HB1.out.size;omega,rfl⟩
end Go.Proofs.YthdmjmnkhlpnnabGreatDoor
namespace Go.Proofs.YthdmjmnkhlpnnabGreatDoor
open Go.RowKit Go.Maps
variable {w:World} {T base nx:Nat} {ps:List Pl3} {M:Nat} {D:DataW Unit} {pv:Value}
theorem fl4_set (ps:List Pl3) (j:Nat) (p:Pl3):fl4 (ps.set j p)=if j < ps.length then ((((fl4 ps).set (j*4) (.int .u8 p.a)).set (j*4+1) (.int .u8 p.b)).set (j*4+2) (.int .u8 p.c)).set (j*4+3) (.int .i64 p.bf) else fl4 ps:=by
 induction ps generalizing j with
 | nil => rfl
 | cons x ps ih =>
  cases j with
  | zero => simp [fl4,pc4]
  | succ j =>
   show pc4 x ++ fl4 (ps.set j p)=_
   rw [ih j]
   by_cases hj:j < ps.length
   ·rw [if_pos hj,if_pos (by simp;omega),show (j+1)*4=j*4+4 by omega,show j*4+4+1=j*4+1+4 by omega,show j*4+4+2=j*4+2+4 by omega,show j*4+4+3=j*4+3+4 by omega]
    rfl
   ·rw [if_neg hj,if_neg (by simp;omega)]
    rfl
theorem Tbl.opened (h:Tbl w T base nx ps M D pv) (h0:0 < ps.length):∃ g cap cur,pv = .slice (some ⟨g,0,none⟩) ps.length cap /\ base<=g /\ w.heap[g]? = some (.cells cur 239 (0,0)) /\ ps.length<=cap /\ cap<=maxLen /\ cur.size=cap*4 /\ cur.toList.take (ps.length*4)=fl4 ps:=by
 obtain ⟨_,⟨rfl,h1⟩ | ⟨g,cap,cur,rfl,hb,hg,hnc,hcm,hcs,htake⟩⟩:=h.row
 ·omega
 ·exact ⟨g,cap,cur,rfl,hb,hg,hnc,hcm,hcs,htake⟩
theorem row_at {g:Nat} {cur:Array Value} {e:TypeId} {fr:Nat × Nat} (hg:w.heap[g]? = some (.cells cur e fr)) {n:Nat} (ht:cur.toList.take (n*4)=fl4 ps) {j:Nat} {r:Pl3} (hj:ps[j]? = some r):w.cell? ⟨g,j*4,none⟩=some (.int .u8 r.a) /\ w.cell? ⟨g,j*4+1,none⟩=some (.int .u8 r.b) /\ w.cell? ⟨g,j*4+2,none⟩=some (.int .u8 r.c) /\ w.cell? ⟨g,j*4+3,none⟩=some (.int .i64 r.bf):=by
 obtain ⟨e0,e1,e2,e3⟩:=fl4_get ps j r hj
 have key:∀ i v,(fl4 ps)[i]? = some v->w.cell? ⟨g,i,none⟩=some v:=fun i v hv => by
  rw [cell_of_row w g i cur e fr hg]
  rw [<- ht,List.getElem?_take] at hv
  split at hv
  ·simpa using hv
  ·cases hv
 exact ⟨key _ _ e0,key _ _ e1,key _ _ e2,key _ _ e3⟩
theorem Tbl.apart (h:Tbl w T base nx ps M D pv) {k:Nat} {cs:Array Value} {e:TypeId} {fr:Nat × Nat} (hk:w.heap[k]? = some (.cells cs e fr)):some k ≠ some M:=fun e => by
 obtain ⟨es,clock,hm,_⟩:=h.map
 injection e with e
 rw [e,hm] at hk
 cases hk
theorem Tbl.turned {w1:World} {D1:DataW Unit} (h:Tbl w T base nx ps M D pv) (ho:w1.ownsMap Tryz.prog 136 (plainElem Tryz.prog 3) M nx D1) (hg:w.grownBy w1 (some M)):Tbl w1 T base nx ps M D1 pv:=by
 refine ⟨(hg.block T h.lt (h.apart h.blk)).trans h.blk,owns_kept h.row (fun k hk => hg.block k (h.row.lt k hk).2 ?_),ho⟩
 rcases h.row.2 with ⟨rfl,_⟩ | ⟨g,cap,cur,rfl,_,hh,_⟩
 ·simp [Value.ownBlock] at hk
 ·simp [Value.ownBlock] at hk
  subst hk
  exact h.apart hh
theorem Fr.turned {a w1:World} (h:Fr (TbO T M pv) a w) (hg:w.grownBy w1 (some M)):Fr (TbO T M pv) a w1:=h.grown hg (fun k hk => by
  have e:M=k:=Option.some.inj hk
  subst e
  exact .inr (.inl rfl))
def lay4 (w:World) (g j:Nat) (p:Pl3):World:=(((w.setCell ⟨g,j*4,none⟩ (.int .u8 p.a)).setCell ⟨g,j*4+1,none⟩ (.int .u8 p.b)).setCell ⟨g,j*4+2,none⟩ (.int .u8 p.c)).setCell ⟨g,j*4+3,none⟩ (.int .i64 p.bf)
theorem lay4_else (w:World) (g j:Nat) (p:Pl3) (k:Nat) (hk:k ≠ g):(lay4 w g j p).heap[k]? = w.heap[k]?:=by
 unfold lay4
 rw [Below.heap_setCell _ _ _ _ (by exact hk),Below.heap_setCell _ _ _ _ (by exact hk),Below.heap_setCell _ _ _ _ (by exact hk),Below.heap_setCell _ _ _ _ (by exact hk)]
theorem Tbl.laid {g cap j:Nat} {cur:Array Value} (h:Tbl w T base nx ps M D pv) (hpv:pv = .slice (some ⟨g,0,none⟩) ps.length cap) (hg:w.heap[g]? = some (.cells cur 239 (0,0))) (ht:cur.toList.take (ps.length*4)=fl4 ps) (hj:j < ps.length) (p:Pl3):Tbl (lay4 w g j p) T base nx (ps.set j p) M D pv:=by
 subst hpv
 have hTg:T ≠ g:=fun e => by have:=h.blk;rw [e,hg] at this;injection this with this;injection this with _ this;exact absurd this (by decide)
 have hMg:M ≠ g:=fun e => h.apart hg (by rw [e])
 refine ⟨by rw [lay4_else _ _ _ _ _ hTg];exact h.blk,?_,?_⟩
 ·obtain ⟨h0,⟨hh,_⟩ | ⟨g',cap',cur',hh,hb,hg',hnc,hcm,hcs,_⟩⟩:=h.row
  ·cases hh
  ·injection hh with e1 _ e3
   injection e1 with e1
   injection e1 with e1
   subst e1 e3
   have hcc:cur'=cur:=by rw [hg] at hg';injection hg' with hg';injection hg' with hg';exact hg'.symm
   subst hcc
   refine ⟨by rw [fl4_length],.inr ⟨g,cap,(((cur'.setIfInBounds (j*4) (.int .u8 p.a)).setIfInBounds (j*4+1) (.int .u8 p.b)).setIfInBounds (j*4+2) (.int .u8 p.c)).setIfInBounds (j*4+3) (.int .i64 p.bf),by rw [List.length_set],hb,?_,by rw [List.length_set];exact hnc,hcm,by simp [hcs],?_⟩⟩
   ·exact blk_set (blk_set (blk_set (blk_set hg _ _) _ _) _ _) _ _
   ·rw [List.length_set,fl4_set,if_pos hj,<- ht]
    simp only [Array.toList_setIfInBounds,List.take_set]
 ·obtain ⟨es,clock,hm,F,hs,hD⟩:=h.map
  exact ⟨es,clock,(lay4_else _ _ _ _ _ hMg).trans hm,F,hs,hD⟩
theorem Fr.laid {a:World} {O:Nat->Prop} (h:Fr O a w) (g j:Nat) (p:Pl3) (hg:O g):Fr O a (lay4 w g j p) :=
 (((h.set ⟨g,_,none⟩ hg _).set ⟨g,_,none⟩ hg _).set ⟨g,_,none⟩ hg _).set ⟨g,_,none⟩ hg _
theorem step_delete_own {H:Type} {P:Program} {ops:Array Oper} {o:Oper} {a:Act} {w:World} {K:Act->World->Prop} {Q:Exit->Act->World->Prop} {E:Prop} (hg:o.guard=none) (m x:Operand) (t k:TypeId) (hop:o.op=Op.call { callee:=Callee.builtin Builtin.delete,args:=#[m,x],argTypes:=#[t,k] })
  (e:TypeId) (hk:Keyed P k) (ht:P.underlying t=some (.map k e)) (R:Value->Option (DataW H × List MemPlace)) (b n:Nat) (D:DataW H)
  (hm:a.eval m = .map (some b)) (hown:w.ownsMap P k R b n D) (key:Value) (kl:Lit) (hx:a.eval x=key) (hkey:keyOf P k key=some kl)
  (hK:∀ w',w'.ownsMap P k R b n (D.del kl)->w.mapTurned w' b->K (a.put o.dst (.tuple #[])) w') :
  if Region.wanted o (yielded ops a.tmps)=true then Oper.wp P o a w K Q else E:=by
 have hw:Region.wanted o (yielded ops a.tmps)=true:=by simp [Region.wanted,hg]
 rw [if_pos hw]
 obtain ⟨w',hrun,r1,r2⟩:=hown.drop hk ht hkey o.type
 unfold Oper.wp
 simp [execOp,hop,resolve,invoke,builtin,hm,hx,hrun,Result.andThen]
 exact hK w' r1 r2
def DQ (D D':DataW Unit):Prop:=D'=D ∨ ∃ kl,D'=D.del kl
set_option maxRecDepth 20000 in
set_option maxHeartbeats 2000000 in
theorem tput_full (h:Tbl w T base nx ps M D pv) (hl:ps.length=32768) (hn:nx<=1000000000000000) (p q:Pl3) (hq:ps[nx % 32768]? = some q) (hqa:q.a < 256) (hqb:q.b < 256) (hqc:q.c < 256) :
  Calls Tryz.prog 192 #[.pointer (some ⟨T,0,none⟩),.agg #[.int .u8 p.a,.int .u8 p.b,.int .u8 p.c,.int .i64 p.bf]] w fun e w' => e = .returned (.tuple #[]) /\ ∃ D',Tbl w' T base nx (ps.set (nx % 32768) p) M D' pv /\ Fr (TbO T M pv) w w' /\ DQ D D':=by
 have HH:=hid h
 obtain ⟨g,cap,cur,hiv,hbg,hgb,hnc,hcm,hcs,htake⟩:=h.opened (by omega)
 obtain ⟨c0,c1,c2,c3⟩:=h.cells
 rw [hiv] at c3
 have hlt:=h.lt
 have hglt:=(Array.getElem?_eq_some_iff.1 hgb).1
 have d1:decide ((ps.length:Int) < 32768)=false:=by simp;omega
 have HIV:=hid hiv
 obtain ⟨A0,hA0⟩:∃ x,x=nx % 32768:=⟨_,rfl⟩
 have hA1:A0 < 32768:=by omega
 have jA:Int.tmod (nx:Int) 32768=(A0:Int):=by rw [hA0,Int.tmod_eq_emod_of_nonneg (by omega)];simp
 rw [<- hA0] at hq ⊢
 have HA0:=hid hA0
 have HQ:=hid hq
 have HGB:=hid hgb
 have HTK:=hid htake
 have HCS:=hid hcs
 have HL:=hid hl
 have hA2:A0 < ps.length:=by omega
 clear h hiv hA0 hq hgb htake hcs hl
 go_enter Tryz.func192,Tryz.ntmps192
 go_upto_region 1 with fail
 go_quiet (fail)
 go_upto_region 3 with fail
 have HB1:=hid (below_drewN' ((Below.refl w.heap.size w).alloc (Nat.le_refl _) (.cells #[.int .u8 p.a,.int .u8 p.b,.int .u8 p.c,.int .i64 p.bf] 239)) nq)
 have HN1:Hid (((w.alloc (.cells #[.int .u8 p.a,.int .u8 p.b,.int .u8 p.c,.int .i64 p.bf] 239)).drewN nq).heap[w.heap.size]? = some (.cells #[.int .u8 p.a,.int .u8 p.b,.int .u8 p.c,.int .i64 p.bf] 239 (0,0))):=heap_alloc_new w _
 obtain ⟨D0,hD0⟩:∃ x,x=w.heap.size:=⟨_,rfl⟩
 rw [<- hD0] at HN1 ⊢
 have HD0:=hid hD0
 clear hD0 c0 c1 c2 c3
 generalize (w.alloc (.cells #[.int .u8 p.a,.int .u8 p.b,.int .u8 p.c,.int .i64 p.bf] 239)).drewN nq=W1 at HB1 HN1 ⊢
 have HH1:=hid (HH.out.below HB1.out)
 obtain ⟨c0,c1,c2,c3⟩:=HH1.out.cells
 rw [HIV.out] at c3
 go_quiet (fail)
 go_upto_region 4 with fail
 have HB2:=hid (below_drewN' (Below.refl W1.heap.size W1) nq)
 have HN2:Hid ((W1.drewN nq).heap[D0]? = some (.cells #[.int .u8 p.a,.int .u8 p.b,.int .u8 p.c,.int .i64 p.bf] 239 (0,0))):=HN1.out
 clear c0 c1 c2 c3
 generalize W1.drewN nq=W2 at HB2 HN2 ⊢
 have HH2:=hid (HH1.out.below HB2.out)
 have HG2:Hid (W2.heap[g]? = _):=hid ((HB2.out.block g (by have:=HB1.out.size;omega)).trans ((HB1.out.block g hglt).trans HGB.out))
 obtain ⟨c0,c1,c2,c3⟩:=HH2.out.cells
 rw [HIV.out] at c3
 obtain ⟨k0,k1,k2,k3⟩:=row_at HG2.out HTK.out HQ.out
 have hlt2:=HH2.out.lt
 have d2:decide ((A0:Int) < (ps.length:Int))=true:=by simp;omega
 go_upto_region 5 with fail
 have HB3:=hid ((Below.refl W2.heap.size W2).alloc (Nat.le_refl _) (.cells #[.int .u8 q.a,.int .u8 q.b,.int .u8 q.c] 136))
 have HN3:Hid ((W2.alloc (.cells #[.int .u8 q.a,.int .u8 q.b,.int .u8 q.c] 136)).heap[W2.heap.size]? = some (.cells #[.int .u8 q.a,.int .u8 q.b,.int .u8 q.c] 136 (0,0))):=heap_alloc_new W2 _
 obtain ⟨E0,hE0⟩:∃ x,x=W2.heap.size:=⟨_,rfl⟩
 rw [<- hE0] at HN3 ⊢
 have HE0:=hid hE0
 have hs1:=HB1.out.size
 have hs2:=HB2.out.size
 have hd0:D0 < W2.heap.size:=by have:=(Array.getElem?_eq_some_iff.1 HN2.out).1;omega
 clear hE0 c0 c1 c2 c3 k0 k1 k2 k3
 generalize W2.alloc (.cells #[.int .u8 q.a,.int .u8 q.b,.int .u8 q.c] 136)=W3 at HB3 HN3 ⊢
 have HH3:=hid (HH2.out.below HB3.out)
 have HG3:Hid (W3.heap[g]? = _):=hid ((HB3.out.block g (by omega)).trans HG2.out)
 have HM3:Hid (W3.heap[D0]? = _):=hid ((HB3.out.block D0 hd0).trans HN2.out)
 obtain ⟨c0,c1,c2,c3⟩:=HH3.out.cells
 rw [HIV.out] at c3
 have e0:W3.cell? ⟨E0,0,none⟩=some (.int .u8 q.a):=by rw [cell_of_row _ _ 0 _ _ _ HN3.out];rfl
 have e1:W3.cell? ⟨E0,1,none⟩=some (.int .u8 q.b):=by rw [cell_of_row _ _ 1 _ _ _ HN3.out];rfl
 have e2:W3.cell? ⟨E0,2,none⟩=some (.int .u8 q.c):=by rw [cell_of_row _ _ 2 _ _ _ HN3.out];rfl
 obtain ⟨kl,hkl⟩:=key_of q.a q.b q.c hqa hqb hqc
 obtain ⟨c,hc1⟩:∃ c:Int,∀ n,(Instr.lookup 178 (.map (some M)) (k3 q.a q.b q.c) false).run Tryz.prog (W3.drewN n) = .ok (.int .i64 c) (W3.drewN n):=by
  obtain ⟨c,_,r2,_⟩:=World.ownsMap.lookup_int HH3.out.map keyLaw Tryz.underlying178 Tryz.underlying3 (zeroInt W3) hkl
  refine ⟨c,fun n => ?_⟩
  obtain ⟨c',r1',r2',_⟩:=World.ownsMap.lookup_int (w:=W3.drewN n) HH3.out.map keyLaw Tryz.underlying178 Tryz.underlying3 (zeroInt _) hkl
  rw [r2] at r2'
  simp at r2'
  rw [r1',r2']
 have HKL:=hid hkl
 clear hkl
 unfold k3 at hc1
 have jB:IntKind.i64.wrap ((nx:Int) - 32768)=(nx:Int) - 32768:=by rw [IntKind.wrap_i64];omega
 go_quiet (fail)
 have HB4:=hid (below_drewN' (Below.refl W3.heap.size W3) nq)
 have HN4:Hid ((W3.drewN nq).heap[E0]? = _):=HN3
 have HM4:Hid ((W3.drewN nq).heap[D0]? = _):=HM3
 have HG4:Hid ((W3.drewN nq).heap[g]? = _):=HG3
 clear c0 c1 c2 c3 e0 e1 e2 hc1
 generalize W3.drewN nq=W4 at HB4 HN4 HM4 HG4 ⊢
 have HH4:=hid (HH3.out.below HB4.out)
 obtain ⟨c0,c1,c2,c3⟩:=HH4.out.cells
 rw [HIV.out] at c3
 have e0:W4.cell? ⟨E0,0,none⟩=some (.int .u8 q.a):=by rw [cell_of_row _ _ 0 _ _ _ HN4.out];rfl
 have e1:W4.cell? ⟨E0,1,none⟩=some (.int .u8 q.b):=by rw [cell_of_row _ _ 1 _ _ _ HN4.out];rfl
 have e2:W4.cell? ⟨E0,2,none⟩=some (.int .u8 q.c):=by rw [cell_of_row _ _ 2 _ _ _ HN4.out];rfl
 clear jB
 generalize (c == (nx:Int) - 32768)=bb
 generalize (nx:Int) - 32768=y0
 have HF4:=hid ((((((Fr.refl (TbO T M pv) w).below HB1.out).below HB2.out).below HB3.out)).below HB4.out)
 cases bb
 case' true =>
  go_upto_region 6 with fail
  go_region_law
   ((refine step_delete_own rfl _ _ _ _ rfl 3 keyLaw Tryz.underlying178 _ M nx D rfl HH4.out.map.drew _ kl rfl HKL.out ?_;intro w1 hown1 hturn1))
  all_goals
   have hgr1:=hturn1.grown
   have HT5:=hid ((HH4.out.below (Below.refl W4.heap.size W4).drew).turned hown1 hgr1)
   have HF5:=hid ((HF4.out.below (Below.refl W4.heap.size W4).drew).turned hgr1)
   have HG5:=hid ((hgr1.block g (Array.getElem?_eq_some_iff.1 HG4.out).1 (HH4.out.apart HG4.out)).trans HG4.out)
   have HM5:=hid ((hgr1.block D0 (Array.getElem?_eq_some_iff.1 HM4.out).1 (HH4.out.apart HM4.out)).trans HM4.out)
   have HD5:Hid (DQ D (D.del kl)):=.inr ⟨kl,rfl⟩
   clear hown1 hturn1 hgr1 c0 c1 c2 c3 e0 e1 e2
   generalize D.del kl=D2 at HT5 HD5
   go_upto_region 7 with fail
 case' false =>
  go_upto_region 7 with fail
  have HT5:=HH4
  have HF5:=HF4
  have HG5:=HG4
  have HM5:=HM4
  clear c0 c1 c2 c3 e0 e1 e2 HB4 HN4
  generalize hw1:W4=w1 at HT5 HF5 HG5 HM5 ⊢
  clear hw1
  obtain ⟨D2,hD2⟩:∃ x,x=D:=⟨_,rfl⟩
  rw [<- hD2] at HT5
  have HD5:Hid (DQ D D2):=.inl hD2
  clear hD2
 all_goals
  obtain ⟨c0,c1,c2,c3⟩:=HT5.out.cells
  rw [HIV.out] at c3
  obtain ⟨k0,k1,k2,k3⟩:=row_at HG5.out HTK.out HQ.out
  have b0:w1.cell? ⟨D0,0,none⟩=some (.int .u8 p.a):=by rw [cell_of_row _ _ 0 _ _ _ HM5.out];rfl
  have b1:w1.cell? ⟨D0,1,none⟩=some (.int .u8 p.b):=by rw [cell_of_row _ _ 1 _ _ _ HM5.out];rfl
  have b2:w1.cell? ⟨D0,2,none⟩=some (.int .u8 p.c):=by rw [cell_of_row _ _ 2 _ _ _ HM5.out];rfl
  have b3:w1.cell? ⟨D0,3,none⟩=some (.int .i64 p.bf):=by rw [cell_of_row _ _ 3 _ _ _ HM5.out];rfl
  have f0:∀ j,w1.frozen? ⟨g,j,none⟩=false:=fun j => by have:=HG5.out;simp [World.frozen?,this]
  go_region_with (fail)
 all_goals
  go_wp2
  refine bodyPost_end (results_none Tryz.results192 _ _ _) rfl ⟨rfl,D2,?_,?_,HD5.out⟩
  ·exact (HT5.out.laid HIV.out HG5.out HTK.out hA2 p).below (Below.refl _ _).drew
  ·exact (HF5.out.laid g A0 p (.inr (.inr (by rw [HIV.out];rfl)))).below (Below.refl _ _).drew
end Go.Proofs.YthdmjmnkhlpnnabGreatDoor
