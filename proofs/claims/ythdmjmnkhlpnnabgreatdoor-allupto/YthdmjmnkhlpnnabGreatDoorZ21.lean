import Derived.Test.YthdmjmnkhlpnnabGreatDoorZ12
namespace Go.Proofs.YthdmjmnkhlpnnabGreatDoor
open Go.RowKit
def cnc (c:Cn):Array Value:=nums c.a ++ nums c.b ++ #[.int .i64 c.n]
structure Cnt (w:World) (q:Nat) (c:Cn):Prop where
 blk:w.heap[q]? = some (.cells (cnc c) 163 (0,0))
 la:c.a.length=286
 lb:c.b.length=30
theorem cnc_a {c:Cn} (i:Nat) (h:i < c.a.length):(cnc c)[i]? = some (.int .i64 (c.a.getD i 0)):=by
 unfold cnc
 rw [Array.append_assoc,Array.getElem?_append_left (by rw [nums_size];exact h),nums_get _ _ h]
theorem cnc_b {c:Cn} (la:c.a.length=286) (j:Nat) (h:j < c.b.length):(cnc c)[286+j]? = some (.int .i64 (c.b.getD j 0)):=by
 unfold cnc
 rw [Array.append_assoc,Array.getElem?_append_right (by rw [nums_size];omega),nums_size,Array.getElem?_append_left (by rw [nums_size];omega),show 286+j - c.a.length=j by omega,nums_get _ _ h]
theorem cnc_n {c:Cn} (la:c.a.length=286) (lb:c.b.length=30):(cnc c)[316]? = some (.int .i64 c.n):=by
 unfold cnc
 rw [Array.getElem?_append_right (by simp [nums_size,la,lb]),show 316 - (nums c.a ++ nums c.b).size=0 by simp [nums_size,la,lb]]
 rfl
theorem set_app_l (x y:Array Value) (i:Nat) (v:Value) (h:i < x.size):(x ++ y).setIfInBounds i v=x.setIfInBounds i v ++ y:=by
 apply Array.ext_getElem?
 intro k
 by_cases hk:k < x.size
 ·rw [Array.getElem?_append_left (by simpa using hk),Array.getElem?_setIfInBounds,Array.getElem?_setIfInBounds,Array.size_append]
  split
  ·rw [if_pos (by omega)]
  ·rw [Array.getElem?_append_left hk]
 ·rw [Array.getElem?_append_right (by simp;omega),Array.getElem?_setIfInBounds,if_neg (by omega),Array.getElem?_append_right (by omega)]
  simp
theorem set_app_r (x y:Array Value) (i:Nat) (v:Value):(x ++ y).setIfInBounds (x.size+i) v=x ++ y.setIfInBounds i v:=by
 apply Array.ext_getElem?
 intro k
 by_cases hk:k < x.size
 ·rw [Array.getElem?_append_left hk,Array.getElem?_setIfInBounds,if_neg (by omega),Array.getElem?_append_left hk]
 ·rw [Array.getElem?_append_right (by omega),Array.getElem?_setIfInBounds,Array.getElem?_setIfInBounds,Array.size_append]
  by_cases e:x.size+i=k
  ·subst e
   by_cases h2:i < y.size
   ·simp [h2]
   ·simp [h2]
  ·rw [if_neg e,if_neg (by omega),Array.getElem?_append_right (by omega)]
variable {w:World} {q:Nat} {c:Cn}
theorem Cnt.ca (h:Cnt w q c) (i:Nat) (hi:i < 286):w.cell? ⟨q,i,none⟩=some (.int .i64 (c.a.getD i 0)):=by rw [cell_of_row w q i _ _ _ h.blk,cnc_a i (by rw [h.la];exact hi)]
theorem Cnt.cb (h:Cnt w q c) (i:Nat) (hi:i < 30):w.cell? ⟨q,286+i,none⟩=some (.int .i64 (c.b.getD i 0)):=by rw [cell_of_row w q _ _ _ _ h.blk,cnc_b h.la i (by rw [h.lb];exact hi)]
theorem Cnt.cn (h:Cnt w q c):w.cell? ⟨q,316,none⟩=some (.int .i64 c.n):=by rw [cell_of_row w q _ _ _ _ h.blk,cnc_n h.la h.lb]
theorem Cnt.free (h:Cnt w q c) (j:Nat):w.frozen? ⟨q,j,none⟩=false:=by have:=h.blk;simp [World.frozen?,this]
theorem Cnt.lt (h:Cnt w q c):q < w.heap.size:=(Array.getElem?_eq_some_iff.1 h.blk).1
theorem Cnt.setA (h:Cnt w q c) (i:Nat) (hi:i < 286):Cnt (w.setCell ⟨q,i,none⟩ (.int .i64 (c.a.getD i 0+1))) q ⟨inc c.a i,c.b,c.n⟩:=by
 have la:=h.la
 refine ⟨?_,by rw [inc_length];exact la,h.lb⟩
 rw [setCell_eq_setRow w q i _ _ _ _ h.blk]
 have e:(cnc c).setIfInBounds i (.int .i64 (c.a.getD i 0+1))=cnc ⟨inc c.a i,c.b,c.n⟩:=by
  unfold cnc inc
  rw [Array.append_assoc,set_app_l _ _ _ _ (by rw [nums_size];omega),nums_set,Array.append_assoc]
 rw [e]
 exact setRow_heap w q _ _ _ _ h.blk
theorem Cnt.setB (h:Cnt w q c) (i:Nat) (hi:i < 30):Cnt (w.setCell ⟨q,286+i,none⟩ (.int .i64 (c.b.getD i 0+1))) q ⟨c.a,inc c.b i,c.n⟩:=by
 have la:=h.la
 have lb:=h.lb
 refine ⟨?_,la,by rw [inc_length];exact lb⟩
 rw [setCell_eq_setRow w q _ _ _ _ _ h.blk]
 have e:(cnc c).setIfInBounds (286+i) (.int .i64 (c.b.getD i 0+1))=cnc ⟨c.a,inc c.b i,c.n⟩:=by
  unfold cnc inc
  rw [Array.append_assoc,show 286+i=(nums c.a).size+i by rw [nums_size,la],set_app_r,set_app_l _ _ _ _ (by rw [nums_size];omega),nums_set,Array.append_assoc]
 rw [e]
 exact setRow_heap w q _ _ _ _ h.blk
theorem Cnt.setN (h:Cnt w q c) (m:Nat):Cnt (w.setCell ⟨q,316,none⟩ (.int .i64 m)) q ⟨c.a,c.b,m⟩:=by
 have la:=h.la
 have lb:=h.lb
 refine ⟨?_,la,lb⟩
 rw [setCell_eq_setRow w q _ _ _ _ _ h.blk]
 have e:(cnc c).setIfInBounds 316 (.int .i64 m)=cnc ⟨c.a,c.b,m⟩:=by
  unfold cnc
  rw [show 316=(nums c.a ++ nums c.b).size+0 by simp [nums_size,la,lb],set_app_r]
  rfl
 rw [e]
 exact setRow_heap w q _ _ _ _ h.blk
theorem Cnt.below {w':World} (h:Cnt w q c) (hb:Below w.heap.size w w'):Cnt w' q c:=⟨(hb.block q h.lt).trans h.blk,h.la,h.lb⟩
theorem wpList_built0 {P:Program} {ops:Array Oper} {rest:List Oper} {o:Oper} {a:Act} {w:World} {Q:Exit->Act->World->Prop} (hg:o.guard=none) (t:TypeId) (ho:o.op = .build t #[])
  (cells:Array Value) (hc:P.built t []=some cells) (h:wpList P ops Q rest (a.put o.dst (.agg cells)) w):wpList P ops Q (o :: rest) a w:=by
 exact wpList_build hg t _ ho (by simp [hc]) (by simpa [hc] using h)
theorem cnc_built:Tryz.prog.built 163 []=some (cnc cn0):=by kernel_rfl
theorem span_bits (a b:Value) (u:World):(Instr.field 165 (.agg #[a,b]) 1).run Tryz.prog u = .ok b u:=by
 kernel_rfl
set_option maxRecDepth 20000 in
set_option maxHeartbeats 1600000 in
theorem countsOf_any (w:World) (ao:Option Addr) (c:Nat) (ws:List Wd) (n:Nat) (hs:WSeg w ao ws) (hk:okm ws n) (hw:ws.length<=65535) :
  Calls Tryz.prog 69 #[.slice ao ws.length c] w fun e w' => ∃ q,e = .returned (.pointer (some ⟨q,0,none⟩)) /\ w.heap.size<=q /\ Cnt w' q ⟨inc (cnw ws).a 256,(cnw ws).b,(cnw ws).n⟩ /\ Below w.heap.size w w':=by
 obtain ⟨cs,hcs⟩:∃ cs,cs=cnc cn0:=⟨_,rfl⟩
 have hbu:=cnc_built
 rw [<- hcs] at hbu
 have HCS:=hid hcs
 clear hcs
 go_enter Tryz.func69,Tryz.ntmps69
 go_wp2_with (refine wpList_built0 rfl 163 rfl cs hbu ?_)
 have HS:=hid hs
 have HK:=hid hk
 clear hs hk hbu
 have HC0:Hid (Cnt (w.alloc (.cells cs 163)) w.heap.size cn0):=by
  refine ⟨?_,cn0_len.1,cn0_len.2⟩
  rw [<- HCS.out]
  exact heap_alloc_new w _
 have HB0:=hid ((Below.refl w.heap.size w).alloc (Nat.le_refl _) (.cells cs 163))
 go_loopw [12] (fun i wr => ∃ k:Nat,k<=ws.length /\ i = .int .i64 k /\ Hid (Cnt wr w.heap.size (cnw (ws.take k))) /\ Hid (Below w.heap.size w wr)) (fun i _ => ws.length - (intOf i).toNat)
 case atStart => exact ⟨0,by omega,rfl,HC0,HB0⟩
 case round =>
  clear HC0 HB0 HCS
  obtain ⟨k,hk,rfl,HC,HB⟩:=hrel
  have hok:=hid (cnw_ok (ws.take k) n (by
    have:=HK.out
    rw [<- List.take_append_drop k ws,okm_append] at this
    exact this.1))
  by_cases hlt:k < ws.length
  ·obtain ⟨b,off,ds,rfl,hcs,hcell⟩:=(HS.out.ty (Ty.below HB.out)) (by omega)
   obtain ⟨x,hx⟩:∃ x,x=ws[k]:=⟨_,rfl⟩
   have hx':ws[k]? = some x:=by rw [hx];exact List.getElem?_eq_getElem hlt
   obtain ⟨y1,y2,y3⟩:=hcell k x hx'
   have q1:wr.cell? ⟨b,off+k*3,none⟩=some (.int .u8 (wdL x)):=by rw [cell_of_row wr b _ ds _ (0,0) hcs];exact y1
   have q2:wr.cell? ⟨b,off+k*3+1,none⟩=some (.int .i64 (wdC x)):=by rw [cell_of_row wr b _ ds _ (0,0) hcs];exact y2
   have q3:wr.cell? ⟨b,off+k*3+2,none⟩=some (.int .i64 (wdB x)):=by rw [cell_of_row wr b _ ds _ (0,0) hcs];exact y3
   have hom:∃ m,om1 m x:=by
    have h1:=HK.out
    have e1:ws=ws.take k ++ (x :: ws.drop (k+1)):=by
     have:=List.drop_eq_getElem_cons hlt
     rw [<- hx] at this
     rw [<- this,List.take_append_drop]
    rw [e1,okm_append] at h1
    exact ⟨_,h1.2.1⟩
   obtain ⟨m,hm⟩:=hom
   have HOM:=hid hm
   have HXX:=hid hx'
   have hq:=HB.out.size
   clear y1 y2 y3 hcell hcs hx hx' hm
   obtain ⟨cc,hcc⟩:∃ cc,cc=cnw (ws.take k):=⟨_,rfl⟩
   rw [<- hcc] at HC hok
   have HCC:Hid (cnw (ws.take (k+1))=cn1 cc x):=by
    show _=_
    rw [List.take_add_one,HXX.out,Option.toList_some,cnw_snoc,hcc]
   clear hcc
   have HB3:=hid ((Below.refl wr.heap.size wr).alloc (Nat.le_refl _) (.cells #[.int .u8 (wdL x),.int .i64 (wdC x),.int .i64 (wdB x)] 158))
   have HC3:=hid (HC.out.below HB3.out)
   have l0:=HC.out.lt
   obtain ⟨D,hD⟩:∃ D,D=w.heap.size:=⟨_,rfl⟩
   have HDD:=hid hD
   rw [<- hD] at HC HC3 l0 ⊢
   clear hD
   cases x with
   | lit v =>
    replace q1:wr.cell? ⟨b,off+k*3,none⟩=some (.int .u8 v.toNat):=q1
    replace q2:wr.cell? ⟨b,off+k*3+1,none⟩=some (.int .i64 0):=q2
    replace q3:wr.cell? ⟨b,off+k*3+2,none⟩=some (.int .i64 0):=q3
    have hv:=v.toNat_lt
    have r1:=HC.out.ca v.toNat (by omega)
    have r2:(wr.alloc (.cells #[.int .u8 v.toNat,.int .i64 0,.int .i64 0] 158)).frozen? ⟨D,v.toNat,none⟩=false:=HC3.out.free v.toNat
    have bd:=hok.out.ba v.toNat
    have hkl:(ws.take k).length<=k:=by rw [List.length_take];omega
    obtain ⟨z,hz⟩:∃ z,z=cc.a.getD v.toNat 0:=⟨_,rfl⟩
    rw [<- hz] at r1 bd
    have hz1:z<=65535:=by omega
    have hz0:0<=z:=bd.1
    have HZ:=hid hz
    clear hz bd hkl
    go_upto_region 6 with fail
    go_region_with (fail)
    all_goals
     go_wp2
     go_roundw
     case rel =>
      refine ⟨k+1,by omega,by simp,?_,?_⟩
      ·show Cnt _ D _
       rw [HCC.out]
       show Cnt _ D ⟨inc cc.a v.toNat,cc.b,cc.n⟩
       rw [HZ.out]
       have hs:=HC.out.setA v.toNat (by omega)
       exact (hs.below ((Below.refl _ _).alloc (Nat.le_refl _) _)).below (below_drewN' (Below.refl _ _) 1)
      ·have hDw:D=w.heap.size:=HDD.out
       show Below D w _
       rw [hDw]
       have hs:=HB.out.setCell (p:=⟨w.heap.size,v.toNat,none⟩) (Nat.le_refl _) (.int .i64 (z+1))
       exact (hs.alloc hs.size _).drew
     case measure => simp [intOf];omega
   | mat c1 b1 =>
    replace q1:wr.cell? ⟨b,off+k*3,none⟩=some (.int .u8 0):=q1
    replace q2:wr.cell? ⟨b,off+k*3+1,none⟩=some (.int .i64 c1):=q2
    replace q3:wr.cell? ⟨b,off+k*3+2,none⟩=some (.int .i64 b1):=q3
    obtain ⟨k1,k2,k3,k4,k5⟩:=HOM.out
    have t1:=ltr_any c1 (by omega) k1
    have t3:=stp_le b1 k3 k4
    have t4:=agn_le (ltr c1 - 257) (by omega)
    have t5:=bck_le (stp b1) t3
    have d:((c1:Int) == 0)=false:=by simp;omega
    have HLT:=hid (letter_any c1 · k1 k2)
    have HST:=hid (step_any b1 · k3 k4)
    obtain ⟨A1,hA1⟩:∃ x,x=(agn (ltr c1 - 257)).1:=⟨_,rfl⟩
    obtain ⟨A2,hA2⟩:∃ x,x=(agn (ltr c1 - 257)).2:=⟨_,rfl⟩
    obtain ⟨B1,hB1⟩:∃ x,x=(bck (stp b1)).1:=⟨_,rfl⟩
    obtain ⟨B2,hB2⟩:∃ x,x=(bck (stp b1)).2:=⟨_,rfl⟩
    have HE:Hid (cn1 cc (.mat c1 b1)=⟨inc cc.a (ltr c1),inc cc.b (stp b1),cc.n+(A2+B2)⟩):=by show _=_;rw [hA2,hB2];rfl
    have HAG:Hid (∀ u:World,Calls Tryz.prog 110 #[.int .i64 (ltr c1:Nat)] u fun e w' => e = .returned (.agg #[.int .i64 A1,.int .i64 A2]) /\ Below u.heap.size u w'):=fun u => by
     have:=again_span (ltr c1:Int) (by omega) (by omega) u
     rw [show ((ltr c1:Int) - 257).toNat=ltr c1 - 257 by omega,<- hA1,<- hA2] at this
     exact this
    have HBK:Hid (∀ u:World,Calls Tryz.prog 111 #[.int .i64 (stp b1:Nat)] u fun e w' => e = .returned (.agg #[.int .i64 B1,.int .i64 B2]) /\ Below u.heap.size u w'):=fun u => by
     have:=back_any (stp b1:Int) (by omega) (by omega) u
     rw [Int.toNat_natCast,<- hB1,<- hB2] at this
     exact this
    rw [<- hA2] at t4
    rw [<- hB2] at t5
    clear hA1 hA2 hB1 hB2
    obtain ⟨lt,hlt2⟩:∃ x,x=ltr c1:=⟨_,rfl⟩
    obtain ⟨st,hst⟩:∃ x,x=stp b1:=⟨_,rfl⟩
    rw [<- hlt2] at t1 HLT HE HAG
    rw [<- hst] at HST HE HBK t3
    clear hlt2 hst
    have lt1:lt<=285:=t1.2.1
    have hbA:=hok.out.ba lt
    have hbB:=hok.out.bb st
    have hbN:=hok.out.bn
    have hkl:(ws.take k).length<=65535:=by rw [List.length_take];omega
    have a2s:A2<=5:=t4.2.2
    have b2s:B2<=13:=t5.2.2
    clear t1 t4 t5
    go_upto_region 7 with fail
    go_cut [6,7] (fun a b wx => a = .int .i64 lt /\ b = .int .i64 st /\ Hid (Cnt wx D cc) /\ Hid (Below w.heap.size w wx))
    case first =>
     go_region_with (first | (go_at_call 108;refine (HLT.out _).mono ?_;rintro e w' ⟨rfl,rfl⟩) | (go_at_call 109;refine (HST.out _).mono ?_;rintro e w' ⟨rfl,rfl⟩))
     all_goals
      go_wp2
      go_meet
      exact ⟨rfl,rfl,HC3.out.below (below_drewN' (Below.refl _ _) 1),below_drewN' (HB.out.trans (HB3.out.mono HB.out.size)) 1⟩
    case rest =>
    obtain ⟨rfl,rfl,HC7,HB7⟩:=hcut
    clear HC HB HC3 HB3 HLT HST q1 q2 q3 d l0 hq
    obtain ⟨z,hz⟩:∃ z,z=cc.a.getD lt 0:=⟨_,rfl⟩
    have r1:=HC7.out.ca lt (by omega)
    have r2:=HC7.out.free lt
    rw [<- hz] at r1 hbA
    have HZ:=hid hz
    have hz0:0<=z:=hbA.1
    have hz1:z<=65535:=by omega
    have wz:IntKind.i64.wrap (z+1)=z+1:=by rw [IntKind.wrap_i64];omega
    clear hz hbA
    go_upto_region 8 with fail
    go_cut [36] (fun _ wx => Hid (Cnt wx D ⟨inc cc.a lt,cc.b,cc.n⟩) /\ Hid (Below w.heap.size w wx))
    case first =>
     go_region_with (fail)
     all_goals
      go_wp2
      go_meet
      refine ⟨?_,?_⟩
      ·show Cnt _ D _
       rw [HZ.out]
       exact (HC7.out.setA lt (by omega)).below (below_drewN' (Below.refl _ _) 1)
      ·have hDw:D=w.heap.size:=HDD.out
       exact (HB7.out.setCell (p:=⟨D,lt,none⟩) (by show _<=D;omega) _).drew
    case rest =>
    clear HC7 HB7 r1 r2 HZ hz0 hz1 wz z
    rename World => wd
    obtain ⟨HC8,HB8⟩:=hcut
    obtain ⟨z,hz⟩:∃ z,z=cc.b.getD st 0:=⟨_,rfl⟩
    have r1:=HC8.out.cb st (by omega)
    have r2:=HC8.out.free (286+st)
    rw [<- hz] at r1 hbB
    have HZ:=hid hz
    have hz0:0<=z:=hbB.1
    have hz1:z<=65535:=by omega
    have wz:IntKind.i64.wrap (z+1)=z+1:=by rw [IntKind.wrap_i64];omega
    clear hz hbB
    go_upto_region 9 with fail
    go_cut [46] (fun _ wx => Hid (Cnt wx D ⟨inc cc.a lt,inc cc.b st,cc.n⟩) /\ Hid (Below w.heap.size w wx))
    case first =>
     go_region_with (fail)
     all_goals
      go_wp2
      go_meet
      refine ⟨?_,?_⟩
      ·show Cnt _ D _
       rw [HZ.out]
       exact (HC8.out.setB st (by omega)).below (below_drewN' (Below.refl _ _) 1)
      ·have hDw:D=w.heap.size:=HDD.out
       exact (HB8.out.setCell (p:=⟨D,286+st,none⟩) (by show _<=D;omega) _).drew
    case rest =>
    clear HC8 HB8 r1 r2 HZ hz0 hz1 wz z
    rename World => wd
    obtain ⟨HC9,HB9⟩:=hcut
    have r1:=HC9.out.cn
    have r2:=HC9.out.free 316
    have l0:=HC9.out.lt
    have w5:IntKind.i64.wrap ((A2:Int)+(B2:Int))=(A2:Int)+(B2:Int):=by rw [IntKind.wrap_i64];omega
    obtain ⟨N,hN⟩:∃ N:Nat,N=cc.n:=⟨_,rfl⟩
    replace r1:wd.cell? ⟨D,316,none⟩=some (.int .i64 N):=by rw [hN];exact r1
    have hNb:N<=1179630:=by omega
    have w6:IntKind.i64.wrap ((N:Int)+((A2:Int)+(B2:Int)))=(N:Int)+((A2:Int)+(B2:Int)):=by rw [IntKind.wrap_i64];omega
    have HN:=hid hN
    have f1:=fun u => span_bits (.int .i64 A1) (.int .i64 A2) u
    have f2:=fun u => span_bits (.int .i64 B1) (.int .i64 B2) u
    clear hN hbN
    go_upto_region 10 with fail
    go_region_with (first | (go_at_call 111;refine (HBK.out _).mono ?_;rintro e w8 ⟨rfl,hb8⟩;have HC11:=hid (HC10.out.below hb8);have HB11:=hid (HB10.out.trans (hb8.mono HB10.out.size));have r1b:w8.cell? ⟨D,316,none⟩=some (.int .i64 N):=(by rw [HN.out];exact HC11.out.cn);have r2b:=HC11.out.free 316) | (go_at_call 110;refine (HAG.out _).mono ?_;rintro e w7 ⟨rfl,hb7⟩;have HC10:=hid ((HC9.out.below (below_drewN' (Below.refl _ _) 1)).below hb7);have HB10:=hid ((below_drewN' HB9.out 1).trans (hb7.mono (below_drewN' HB9.out 1).size));have r1a:w7.cell? ⟨D,316,none⟩=some (.int .i64 N):=(by rw [HN.out];exact HC10.out.cn)))
    all_goals
     go_wp2
     go_roundw
     case rel =>
      have e3:(N:Int)+((A2:Int)+(B2:Int))=((cc.n+(A2+B2):Nat):Int):=by rw [HN.out];push_cast;rfl
      refine ⟨k+1,by omega,by simp,?_,?_⟩
      ·show Cnt _ D _
       rw [HCC.out,HE.out,e3]
       exact HC11.out.setN (cc.n+(A2+B2))
      ·have hDw:D=w.heap.size:=HDD.out
       show Below D w _
       rw [hDw]
       exact HB11.out.setCell (p:=⟨w.heap.size,316,none⟩) (Nat.le_refl _) _
     case measure => simp [intOf];omega
  ·obtain rfl:k=ws.length:=by omega
   have e9:ws.take ws.length=ws:=List.take_length
   rw [e9] at HC hok
   have hb:=hok.out.ba 256
   obtain ⟨z,hz⟩:∃ z,z=(cnw ws).a.getD 256 0:=⟨_,rfl⟩
   have r1:=HC.out.ca 256 (by omega)
   have r2:=HC.out.free 256
   rw [<- hz] at r1 hb
   have wz:IntKind.i64.wrap (z+1)=z+1:=by rw [IntKind.wrap_i64];omega
   have HZ:=hid hz
   clear hz hb
   go_upto_region 12 with fail
   go_region_with (fail)
   all_goals
    go_wp2
    go_ret
    refine ⟨_,rfl,Nat.le_refl _,?_,?_⟩
    ·rw [HZ.out]
     exact (HC.out.setA 256 (by omega)).below (below_drewN' (Below.refl _ _) 1)
    ·exact (HB.out.setCell (p:=⟨w.heap.size,256,none⟩) (Nat.le_refl _) _).drew
end Go.Proofs.YthdmjmnkhlpnnabGreatDoor
