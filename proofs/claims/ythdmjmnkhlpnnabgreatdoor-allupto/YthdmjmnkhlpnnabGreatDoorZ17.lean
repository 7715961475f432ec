import Derived.Test.YthdmjmnkhlpnnabGreatDoorZ10
namespace Go.Proofs.YthdmjmnkhlpnnabGreatDoor
open Go.RowKit Go.Maps
variable {w:World} {S tr en:Nat} {X:ByteArray} {kn dr T M:Nat} {pv:Value}
def knOf (w:World) (S:Nat):Nat:=(intOf ((w.cell? ⟨S,4,none⟩).getD (.int .i64 0))).toNat
theorem Sx.known (h:Sx w S tr en X kn dr T M pv):knOf w S=kn:=by
 unfold knOf
 rw [h.cells.2.2.2.2]
 simp [intOf]
theorem Sx.told {w':World} {pv':Value} (h:Sx w S tr en X kn dr T M pv) (hf:Fr (TbO T M pv) w w') (hs:Sk w' X (kn+1) dr T M pv') (hx:kn+3<=X.size):Sx (w'.setCell ⟨S,4,none⟩ (.int .i64 (kn+1:Nat))) S tr en X (kn+1) dr T M pv':=by
 have hb:w'.heap[S]? = _:=(hf.blk S h.lt (h.sk.apart h.blk)).trans h.blk
 have hap:=hs.apart hb
 refine ⟨by rw [blk_set hb];rfl,hs.kept (fun k hk => Below.heap_setCell _ _ _ _ (fun e => hap (by rw [<- show k=S from e];exact hk))) (by simp),.inr (by omega)⟩
set_option maxRecDepth 20000 in
set_option maxHeartbeats 1000000 in
theorem learn_any (h:Sx w S tr en X kn dr T M pv) (hX:X.size<=1000000) (hd:dr<=100000000000000) (a:Nat) (ha:kn<=a) (ha2:a<=X.size) :
  Calls Tryz.prog 153 #[.pointer (some ⟨S,0,none⟩),.int .i64 a] w fun e w' => e = .returned (.tuple #[]) /\ ∃ pv',Sx w' S tr en X (min a (X.size - 2)) dr T M pv' /\ Fr (SxO S T M pv) w w' /\ Moved pv pv' w:=by
 have HH:=hid h
 clear h
 go_enter Tryz.func153,Tryz.ntmps153
 go_wp2
 go_loopw [4] (fun _ wr => ∃ (k:Nat) (pv':Value),kn<=k /\ k<=a /\ Hid (Sx wr S tr en X k dr T M pv') /\ Hid (Fr (SxO S T M pv) w wr) /\ Hid (Moved pv pv' w)) (fun _ wr => a - knOf wr S)
 case atStart => exact ⟨kn,pv,Nat.le_refl _,ha,HH,Fr.refl _ _,Moved.refl _ _⟩
 case round =>
  obtain ⟨k,pv',hk1,hk2,HS,HF,HM⟩:=hrel
  have HK:Hid (knOf wr S=k):=HS.out.known
  have hkX:=HS.out.kX
  obtain ⟨c0,c1,c2,c3,c4⟩:=HS.out.cells
  have jK:IntKind.i64.wrap ((k:Int)+3)=(k:Int)+3:=by rw [IntKind.wrap_i64];omega
  by_cases hlt:k < a
  ·have d1:decide ((k:Int) < (a:Int))=true:=by simp;omega
   by_cases hx:k+3<=X.size
   ·have d2:decide ((k:Int)+3<=(X.size:Int))=true:=by simp;omega
    go_upto_region 0 with fail
    go_quiet (fail)
    have HB1:=hid (below_drewN' (Below.refl wr.heap.size wr) nq)
    clear c0 c1 c2 c3 c4
    generalize wr.drewN nq=W1 at HB1 ⊢
    have HS1:=hid (HS.out.below HB1.out)
    obtain ⟨c0,c1,c2,c3,c4⟩:=HS1.out.cells
    have hl1:=HS1.out.lt
    clear c0 c1
    go_upto_region 1 with fail
    go_region_with (first | (go_at_call 181;refine (sadd_any HK2.out (by omega)).mono ?_;rintro e W3 ⟨rfl,pv'',hs3,hf3,hm3⟩;have HS3:=hid hs3;have HF3:=hid hf3;have HM3:=hid hm3;clear hs3 hf3 hm3) | (go_at_call 155;refine (keyAt_any X k _ hx hX).mono ?_;rintro e W2 ⟨rfl,hb2⟩;have HB2:=hid (((Below.refl W1.heap.size W1).drew).trans hb2);have HK2:=hid (HS1.out.sk.below HB2.out);have c3':W2.cell? ⟨S,3,none⟩=some (.pointer (some ⟨T,0,none⟩)):=(HB2.out.cell (p:=⟨S,3,none⟩) hl1).trans c3;clear hb2))
    all_goals
     clear c2 c3 c4
     have hb3:W3.heap[S]? = _:=(HF3.out.blk S ((HS1.out.below HB2.out).lt) ((HS1.out.below HB2.out).sk.apart (HS1.out.below HB2.out).blk)).trans (HS1.out.below HB2.out).blk
     have c4:W3.cell? ⟨S,4,none⟩=some (.int .i64 k):=by rw [cell_of_row _ _ 4 _ _ _ hb3];rfl
     have f4:W3.frozen? ⟨S,4,none⟩=false:=by simp [World.frozen?,hb3]
     clear hb3
     obtain ⟨k1,hk⟩:∃ x,x=k+1:=⟨_,rfl⟩
     have jN:IntKind.i64.wrap ((k:Int)+1)=(k1:Int):=by rw [IntKind.wrap_i64];omega
     have HK1:=hid hk
     clear hk
     go_wp2
     have HX4:Hid (Sx (W3.setCell ⟨S,4,none⟩ (.int .i64 k1)) S tr en X k1 dr T M pv''):=by rw [HK1.out];exact (HS1.out.below HB2.out).told HF3.out HS3.out hx
     refine ⟨⟨k1,pv'',by have:=HK1.out;omega,by have:=HK1.out;omega,HX4,?_,?_⟩,by rw [HX4.out.known,HK.out];have:=HK1.out;omega⟩
     ·exact (((HF.out.below HB1.out).below HB2.out).next (HF3.out.mono (O':=SxO S T M pv') (fun _ h => .inr h)) (fun k hk => SxO.moved HM.out k hk)).set ⟨S,4,none⟩ (.inl rfl) _
     ·exact HM.out.trans (by have:=HF.out.env.size;have:=HB1.out.size;have:=HB2.out.size;omega) HM3.out
   ·have d2:decide ((k:Int)+3<=(X.size:Int))=false:=by simp;omega
    go_upto_region 0 with fail
    go_quiet (fail)
    go_wp2
    go_end0
    have e:k=min a (X.size - 2):=by omega
    exact ⟨rfl,pv',by rw [<- e];exact HS.out.below (below_drewN' (Below.refl _ wr) nq),HF.out.below (below_drewN' (Below.refl _ wr) nq),HM.out⟩
  ·have d1:decide ((k:Int) < (a:Int))=false:=by simp;omega
   go_upto_region 0 with fail
   go_quiet (fail)
   go_wp2
   go_end0
   have e:k=min a (X.size - 2):=by omega
   exact ⟨rfl,pv',by rw [<- e];exact HS.out.below (below_drewN' (Below.refl _ wr) nq),HF.out.below (below_drewN' (Below.refl _ wr) nq),HM.out⟩
end Go.Proofs.YthdmjmnkhlpnnabGreatDoor
