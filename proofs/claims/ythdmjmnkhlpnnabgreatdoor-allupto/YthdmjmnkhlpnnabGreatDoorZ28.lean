import Derived.Test.YthdmjmnkhlpnnabGreatDoorZ27
import Derived.Test.YthdmjmnkhlpnnabGreatDoorZ15
namespace Go.Proofs.YthdmjmnkhlpnnabGreatDoor
open Go.RowKit
theorem own_iseg {w:World} {base n:Nat} {v:Value} {zs:List Int} (h:w.ownsRow base 3 1 v n (ivs zs)) (hl:zs.length=n):∃ ao c,v = .slice ao zs.length c /\ ISeg w ao zs:=by
 obtain ⟨_,⟨rfl,h0⟩ | ⟨g,cap,cur,rfl,hg,hh,h1,h2,h3,h4⟩⟩:=h
 ·exact ⟨none,0,by rw [hl,h0],fun hp => by omega⟩
 ·refine ⟨some ⟨g,0,none⟩,cap,by rw [hl],fun _ => ⟨g,0,cur,rfl,hh,fun j hj => ?_⟩⟩
  have e:cur.toList[j]? = (ivs zs)[j]?:=by rw [<- h4,List.getElem?_take,if_pos (by omega)]
  rw [Nat.zero_add,<- Array.getElem?_toList,e]
  simp [ivs,hj]
def Tb (w w':World):Prop:=∀ (q T:Nat) (cs:Array Value) (fr:Nat × Nat),w.heap[q]? = some (.cells cs T fr)->T ≠ 83->w'.heap[q]? = some (.cells cs T fr)
theorem WSeg.tb {w w':World} {ao:Option Addr} {ws:List Wd} (h:WSeg w ao ws) (t:Tb w w'):WSeg w' ao ws:=fun h0 => by
 obtain ⟨b,off,cs,e,hc,hj⟩:=h h0
 exact ⟨b,off,cs,e,t b _ cs _ hc (by decide),hj⟩
theorem ISeg.tb {w w':World} {ao:Option Addr} {zs:List Int} (h:ISeg w ao zs) (t:Tb w w'):ISeg w' ao zs:=fun h0 => by
 obtain ⟨b,off,cs,e,hc,hj⟩:=h h0
 exact ⟨b,off,cs,e,t b _ cs _ hc (by decide),hj⟩
theorem cnw_end (ws:List Wd) (n:Nat) (h:okm ws n):CnOk ⟨inc (cnw ws).a 256,(cnw ws).b,(cnw ws).n⟩ (ws.length+1):=by
 have hc:=cnw_ok ws n h
 have la:=hc.la
 exact ⟨by rw [inc_length];exact la,hc.lb,inc_bd _ _ _ (by omega) hc.ba,fun i => by have:=hc.bb i;simp only;omega,by have:=hc.bn;simp only;omega⟩
theorem zfa_bd:∀ i,0<=zfa.getD i 0 /\ zfa.getD i 0<=15:=fun i => ok_getD zfa_good.ok i
theorem zfb_bd:∀ i,0<=zfb.getD i 0 /\ zfb.getD i 0<=15:=fun i => ok_getD zfb_good.ok i
theorem zfa_len:zfa.length=288:=by decide +kernel
theorem zfb_len:zfb.length=32:=by decide +kernel
set_option maxRecDepth 20000 in
set_option maxHeartbeats 1600000 in
theorem pfixed_any (w:World) (ao:Option Addr) (c q:Nat) (ws:List Wd) (n:Nat) (hs:WSeg w ao ws) (hk:okm ws n) (hw:ws.length<=65535) (hc:Cnt w q ⟨inc (cnw ws).a 256,(cnw ws).b,(cnw ws).n⟩) :
  Calls Tryz.prog 71 #[.slice ao ws.length c,.pointer (some ⟨q,0,none⟩)] w fun e w' => ∃ qw qa qb,e = .returned (.agg #[.int .i64 ((2+pl (wps zfa zfb ws):Nat):Int),.func (.func 115) #[] #[.pointer (some ⟨qw,0,none⟩),.pointer (some ⟨qa,0,none⟩),.pointer (some ⟨qb,0,none⟩)]]) /\ Caught w' qw qa qb ws zfa zfb /\ Below w.heap.size w w':=by
 have hmf:∀ (fn:Fn) (first cap:Array Value) (w:World),(Instr.makeFunc fn first cap).run Tryz.prog w = .ok (.func fn first cap) w:=fun _ _ _ _ => rfl
 have hbits:=cnw_bits ws zfa zfb n hk (fun i => (zfa_bd i).1) (fun i => (zfb_bd i).1)
 have hce:=cnw_end ws n hk
 have b1:=dot_bound (inc (cnw ws).a 256) zfa 65536 (by omega) (fun i => by have:=hce.ba i;simp only at this;omega) zfa_bd
 have b2:=dot_bound (cnw ws).b zfb 65536 (by omega) (fun i => by have:=hce.bb i;simp only at this;omega) zfb_bd
 have hla:=hce.la
 have hlb:=hce.lb
 have hbn:=hce.bn
 simp only at hla hlb hbn
 rw [hla] at b1
 rw [hlb] at b2
 obtain ⟨N,hN⟩:∃ N:Nat,N=pl (wps zfa zfb ws):=⟨_,rfl⟩
 rw [<- hN] at hbits ⊢
 unfold bitsC at hbits
 have hNb:(N:Int)<=1000000000:=by omega
 have HC:=hid hc
 have HCE:=hid hce
 have HS:=hid hs
 have HBT:=hid hbits
 clear hc hce hs hbits b1 b2 hla hlb hbn hN
 have HB0:=hid (((Below.refl w.heap.size w).alloc (Nat.le_refl _) (.cells #[.slice ao ws.length c] 127)).alloc (by simp) (.cells #[.int .i64 0,.nilFunc] 83))
 have HX0:Hid (Box ((w.alloc (.cells #[.slice ao ws.length c] 127)).alloc (.cells #[.int .i64 0,.nilFunc] 83)) w.heap.size 127 (.slice ao ws.length c)):=(Below.heap_alloc _ _ _ (by simp)).trans (heap_alloc_new w _)
 have HX1:Hid (((w.alloc (.cells #[.slice ao ws.length c] 127)).alloc (.cells #[.int .i64 0,.nilFunc] 83)).heap[w.heap.size+1]? = some (.cells #[.int .i64 0,.nilFunc] 83 (0,0))):=by
  have:=heap_alloc_new (w.alloc (.cells #[.slice ao ws.length c] 127)) (.cells #[.int .i64 0,.nilFunc] 83)
  rw [World.size_alloc] at this
  exact this
 go_enter Tryz.func71,Tryz.ntmps71
 go_upto_region 2 with (first | (go_at_call 112;refine (fixedLetters_any _).mono ?_;rintro e w1 ⟨v1,rfl,ho1,hb1⟩;obtain ⟨a1,c1,rfl,hseg1⟩:=own_iseg ho1 zfa_len;have HI1:=hid hseg1;have HB1:=hid hb1;clear ho1 hseg1 hb1) | (go_at_call 113;refine (fixedSteps_any _).mono ?_;rintro e w2 ⟨g2,rfl,hg2,r2,hb2⟩;have HR2:=hid r2;have HB2:=hid hb2;clear r2 hb2 hg2))
 have HBa:=hid (HB0.out.trans (HB1.out.mono HB0.out.size))
 have HBb:=hid (HBa.out.trans (HB2.out.mono HBa.out.size))
 have HA1:=hid ((Below.refl w2.heap.size w2).alloc (Nat.le_refl _) (.cells #[.slice a1 zfa.length c1] 23))
 have HA2:=hid (HA1.out.alloc HA1.out.size (.cells #[.slice (some ⟨g2,0,none⟩) 32 32] 23))
 have HBc:=hid (HBb.out.trans (HA2.out.mono HBb.out.size))
 have HT2:Hid (Ty ((w.alloc (.cells #[.slice ao ws.length c] 127)).alloc (.cells #[.int .i64 0,.nilFunc] 83)) w2):=(Ty.below HB1.out).trans (Ty.below HB2.out)
 have HX2:=hid (HT2.out _ _ _ _ HX1.out (by decide) (by decide))
 have HY2:=hid (HX0.out.ty HT2.out (by decide) (by decide))
 have HP5:Hid (Box ((w2.alloc (.cells #[.slice a1 zfa.length c1] 23)).alloc (.cells #[.slice (some ⟨g2,0,none⟩) 32 32] 23)) w2.heap.size 23 (.slice a1 zfa.length c1)):=(Below.heap_alloc _ _ _ (by simp)).trans (heap_alloc_new w2 _)
 have HP6:Hid (Box ((w2.alloc (.cells #[.slice a1 zfa.length c1] 23)).alloc (.cells #[.slice (some ⟨g2,0,none⟩) 32 32] 23)) (w2.heap.size+1) 23 (.slice (some ⟨g2,0,none⟩) 32 32)):=by
  have:=heap_alloc_new (w2.alloc (.cells #[.slice a1 zfa.length c1] 23)) (.cells #[.slice (some ⟨g2,0,none⟩) 32 32] 23)
  rw [World.size_alloc] at this
  exact this
 have HTA:=hid (Ty.below HA2.out)
 have HI2:Hid (ISeg w2 (some ⟨g2,0,none⟩) zfb):=by
  have:=HR2.out.iseg zfb.length
  rwa [List.take_length] at this
 have HI1b:=hid ((HI1.out.ty (Ty.below HB2.out)).ty HTA.out)
 have HI2b:=hid (HI2.out.ty HTA.out)
 have HX3:=hid (HTA.out _ _ _ _ HX2.out (by decide) (by decide))
 have HY3:=hid (HY2.out.ty HTA.out (by decide) (by decide))
 have HS3:=hid (HS.out.ty (Ty.below HBc.out))
 have HC3:=hid (HC.out.below HBc.out)
 obtain ⟨q5,hq5⟩:∃ x,x=w2.heap.size:=⟨_,rfl⟩
 rw [<- hq5] at HP5 HP6 ⊢
 clear hq5
 have p5:=HP5.out.cell
 have p6:=HP6.out.cell
 generalize (w2.alloc (.cells #[.slice a1 zfa.length c1] 23)).alloc (.cells #[.slice (some ⟨g2,0,none⟩) 32 32] 23)=W3 at HBc HP5 HP6 HTA HI1b HI2b HX3 HY3 HS3 HC3 p5 p6 HA2 ⊢
 have HCB:Hid (Calls Tryz.prog 114 #[.pointer (some ⟨q,0,none⟩),.slice a1 zfa.length c1,.slice (some ⟨g2,0,none⟩) 32 32] W3 fun e w' => e = .returned (.int .i64 N) /\ Below W3.heap.size W3 w'):=by
  have:=cbits_any W3 q ⟨inc (cnw ws).a 256,(cnw ws).b,(cnw ws).n⟩ a1 (some ⟨g2,0,none⟩) c1 32 zfa zfb (ws.length+1) (by omega) HC3.out HCE.out HI1b.out.seg HI2b.out.seg (by rw [zfa_len];omega) (by rw [zfb_len];omega) zfa_bd zfb_bd
  rw [zfb_len,HBT.out] at this
  exact this
 obtain ⟨X,hX⟩:∃ X:Array Value,X=#[.int .i64 (2+(N:Int)),.func (.func 115) #[] #[.pointer (some ⟨w.heap.size,0,none⟩),.pointer (some ⟨q5,0,none⟩),.pointer (some ⟨q5+1,0,none⟩)]]:=⟨_,rfl⟩
 have HXi:Hid ((Tryz.prog.info? 83).map (·.size)=some X.size):=by show _=_;rw [hX];kernel_rfl
 have HXo:Hid (X.all (·.oneCell')=true):=by show _=_;rw [hX];simp [Value.oneCell']
 have HXs:Hid (#[Value.int .i64 0,Value.nilFunc].size=X.size):=by show _=_;rw [hX];rfl
 have HXV:Hid (Value.agg #[.int .i64 (2+(N:Int)),.func (.func 115) #[] #[.pointer (some ⟨w.heap.size,0,none⟩),.pointer (some ⟨q5,0,none⟩),.pointer (some ⟨q5+1,0,none⟩)]] = .agg X):=by show _=_;rw [hX]
 have HXX:=hid hX
 clear hX HB0 HB1 HB2 HBa HBb HA1 HA2 HX0 HX1 HX2 HY2 HT2 HI1 HI2 HR2
 go_wp2_with (first | (go_at_call 114;refine HCB.out.mono ?_;rintro e w4 ⟨rfl,hb4⟩;have HB4:=hid hb4;have HX4:=hid ((Ty.below hb4) _ _ _ _ HX3.out (by decide) (by decide));clear hb4) | (refine wpList_store_row rfl 83 _ _ rfl (w.heap.size+1) X rfl HXV.out 83 _ (by exact HX4.out) HXi.out HXs.out HXo.out ?_))
 have hR:=setRow_heap w4 (w.heap.size+1) _ X _ _ HX4.out
 refine bodyPost_ret (v:=.agg X) (results_cell_row Tryz.results71 _ _ (w.heap.size+1) 83 X (0,0) _ rfl hR Tryz.underlying83 rfl HXi.out) rfl ?_
 have hb5:=below_row (HBc.out.trans (HB4.out.mono HBc.out.size)) (show w.heap.size<=w.heap.size+1 by omega) X
 have ht5:Tb W3 (w4.setRow (w.heap.size+1) X):=fun j T cs fr h hne => by
  have hj:j ≠ w.heap.size+1:=fun e => by
   rw [e,HX3.out] at h
   injection h with h
   injection h with _ h _
   exact hne h.symm
  rw [setRow_other _ _ _ _ hj]
  exact (HB4.out.block j (Array.getElem?_eq_some_iff.1 h).1).trans h
 refine ⟨w.heap.size,q5,q5+1,?_,⟨ao,a1,some ⟨g2,0,none⟩,c,c1,32,ht5 _ _ _ _ HY3.out (by decide),HS3.out.tb ht5,ht5 _ _ _ _ HP5.out (by decide),HI1b.out.tb ht5,?_,HI2b.out.tb ht5⟩,hb5⟩
 ·rw [HXX.out]
  push_cast
  rfl
 ·rw [zfb_len]
  exact ht5 _ _ _ _ HP6.out (by decide)
end Go.Proofs.YthdmjmnkhlpnnabGreatDoor
