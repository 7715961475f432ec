import Derived.Test.YthdmjmnkhlpnnabGreatDoorZ06
namespace Go.Proofs.YthdmjmnkhlpnnabGreatDoor
open Go.RowKit
def Cds (w:World) (b:Nat) (za zb:List Int):Prop:=∃ x y,w.heap[b]? = some (.cells #[.pointer (some ⟨x,0,none⟩),.pointer (some ⟨y,0,none⟩)] 187 (0,0)) /\ Cod w x za /\ Cod w y zb
theorem Cds.kp {X:TypeId} {B:Nat} {w w':World} {b:Nat} {za zb:List Int} (h:Cds w b za zb) (hk:Kp X B w w') (hX:X=90 ∨ X=143):Cds w' b za zb:=by
 obtain ⟨x,y,h1,h2,h3⟩:=h
 refine ⟨x,y,hk.cells h1 ?_ (by decide),h2.kp hk hX,h3.kp hk hX⟩
 rcases hX with rfl | rfl <;> decide
theorem ltF_no {M:Int} {za zb:List Int} {s:ByteArray} {f p:Nat} {t:List UInt8} {e:Nat} (h:sym za s p = .no e):ltF M za zb s (f+1) p t = .no e t:=by rw [ltF,h]
theorem ltF_lit {M:Int} {za zb:List Int} {s:ByteArray} {f p:Nat} {t:List UInt8} {v:Int} {q:Nat} (h:sym za s p = .ok v q) (hv:v < 256) (hM:(t.length:Int) < M):ltF M za zb s (f+1) p t=ltF M za zb s f q (t ++ [UInt8.ofNat v.toNat]):=by rw [ltF,h];simp only;rw [if_pos hv,if_pos hM]
theorem ltF_big {M:Int} {za zb:List Int} {s:ByteArray} {f p:Nat} {t:List UInt8} {v:Int} {q:Nat} (h:sym za s p = .ok v q) (hv:v < 256) (hM:¬ (t.length:Int) < M):ltF M za zb s (f+1) p t = .no 6 t:=by rw [ltF,h];simp only;rw [if_pos hv,if_neg hM]
theorem ltF_end {M:Int} {za zb:List Int} {s:ByteArray} {f p:Nat} {t:List UInt8} {v:Int} {q:Nat} (h:sym za s p = .ok v q) (hv:v=256):ltF M za zb s (f+1) p t = .ok q t:=by rw [ltF,h];simp only;rw [if_neg (by omega),if_pos hv]
theorem ltF_not {M:Int} {za zb:List Int} {s:ByteArray} {f p:Nat} {t:List UInt8} {v:Int} {q:Nat} (h:sym za s p = .ok v q) (hv:286<=v):ltF M za zb s (f+1) p t = .no 4 t:=by rw [ltF,h];simp only;rw [if_neg (by omega),if_neg (by omega),if_neg (by omega)]
theorem ltF_bits {M:Int} {za zb:List Int} {s:ByteArray} {f p:Nat} {t:List UInt8} {v:Int} {q:Nat} (h:sym za s p = .ok v q) (hv:257<=v) (hv2:v < 286) (hb:¬ q+(agn (v - 257).toNat).2<=8*s.size):ltF M za zb s (f+1) p t = .no 1 t:=by rw [ltF,h];simp only;rw [if_neg (by omega),if_neg (by omega),if_pos hv2,if_neg hb]
theorem ltF_agn {M:Int} {za zb:List Int} {s:ByteArray} {f p:Nat} {t:List UInt8} {v:Int} {q:Nat} (h:sym za s p = .ok v q) (hv:257<=v) (hv2:v < 286) (hb:q+(agn (v - 257).toNat).2<=8*s.size):ltF M za zb s (f+1) p t =
  match agF M zb s ((agn (v - 257).toNat).1+val s q (agn (v - 257).toNat).2) (q+(agn (v - 257).toNat).2) t with
  | .ok p' t' => ltF M za zb s f p' t'
  | .no e t' => .no e t':=by rw [ltF,h];simp only;rw [if_neg (by omega),if_neg (by omega),if_pos hv2,if_pos hb];generalize agF M zb s _ _ t=r;cases r <;> rfl
def posOf (w:World) (B:Nat):Nat:=8*(intOf ((w.cell? ⟨B,1,none⟩).getD (.int .i64 0))).toNat+(intOf ((w.cell? ⟨B,2,none⟩).getD (.int .i64 0))).toNat
theorem Rd.pos {w:World} {B:Nat} {s:ByteArray} {p:Nat} {tv:Value} {t:List UInt8} {M:Int} {fx:Option Addr} (h:Rd w B s p tv t M fx):posOf w B=p:=by
 obtain ⟨-,c1,c2,-,-,-⟩:=h.cell
 unfold posOf
 rw [c1,c2]
 simp [intOf]
 omega
theorem u8_byte (v:Int) (h0:0<=v) (h1:v < 256):((UInt8.ofNat v.toNat).toNat:Int)=v:=by
 rw [UInt8.toNat_ofNat_of_lt' (by show v.toNat < 256;omega)]
 omega
set_option maxRecDepth 20000 in
set_option maxHeartbeats 1600000 in
theorem letters_any (w:World) (B:Nat) (s:ByteArray) (p:Nat) (tv:Value) (t:List UInt8) (M:Int) (fx:Option Addr) (b:Nat) (za zb:List Int) (h:Rd w B s p tv t M fx) (hc:Cds w b za zb) (hma:za.length<=320) (hmb:zb.length<=320) :
  Calls Tryz.prog 79 #[.pointer (some ⟨B,0,none⟩),.pointer (some ⟨b,0,none⟩)] w fun e w' => Did B s M fx (ltF M za zb s (8*s.size+1) p t) w e w':=by
 have HR:=hid h
 have HC:=hid hc
 have hfi:=h.fit
 have hsm:=h.sml
 clear h hc
 obtain ⟨L,hL⟩:∃ L,L=ltF M za zb s (8*s.size+1) p t:=⟨_,rfl⟩
 rw [<- hL]
 have HL0:=hid hL
 clear hL
 go_enter Tryz.func79,Tryz.ntmps79
 go_wp2
 go_loopw [4] (fun _ wr => ∃ (f q:Nat) (u:List UInt8),q<=8*s.size /\ 8*s.size < f+q /\ Hid (L=ltF M za zb s f q u) /\ Hid (∃ tv',Rd wr B s q tv' u M fx) /\ Kp 90 B w wr) (fun _ wr => 8*s.size+1 - posOf wr B)
 case atStart => exact ⟨8*s.size+1,p,t,hfi,by omega,HL0,⟨_,HR.out⟩,Kp.refl _ _ _⟩
 case round =>
  clear HL0
  obtain ⟨f0,q,u,hq,hf0,hL,hR,hK⟩:=hrel
  obtain ⟨f,rfl⟩:∃ f,f0=f+1:=⟨f0 - 1,by omega⟩
  obtain ⟨tv',hR⟩:=hR.out
  obtain ⟨x,y,hb,hx,hy⟩:=HC.out.kp hK (.inl rfl)
  have cx:wr.cell? ⟨b,0,none⟩=some (.pointer (some ⟨x,0,none⟩)):=by rw [cell_of_row wr b 0 _ 187 (0,0) hb];rfl
  have HS:=hid (symbol_any wr.drew B s q tv' u M fx x za hR.drew hx.drew hma)
  have hrom:=hR.rom
  have HPO:Hid (posOf wr B=q):=hR.pos
  have HB:=hid hb
  have HY:=hid hy
  clear hb hx hy hR
  cases hs:sym za s q with
  | no e =>
   rw [hs] at HS
   have HN:Hid (L = .no e u):=by show _=_;rw [hL.out,ltF_no hs]
   clear hs
   go_wp2
   go_region_dies
   all_goals
    refine HS.out.mono ?_
    rintro e1 w4 ⟨rfl,⟨p4,hr4⟩,hk4⟩
    have HD4:Hid (Did B s M fx L w (gone e) w4):=by rw [HN.out];exact ⟨rfl,⟨_,_,hr4⟩,hK.drew.trans hk4⟩
    go_wp2
    exact ⟨rfl,HD4.out⟩
  | ok v r =>
   rw [hs] at HS
   have hv:=sym_ok hs
   have HSY:=hid hs
   clear hs
   by_cases hlit:v < 256
   ·obtain ⟨d,hd,hdv⟩:∃ d:UInt8,d=UInt8.ofNat v.toNat /\ (d.toNat:Int)=v:=⟨_,rfl,u8_byte v (by omega) hlit⟩
    have hd8:d.toNat < 256:=by omega
    by_cases hM:(u.length:Int) < M
    ·have HN:Hid (L=ltF M za zb s f r (u ++ [d])):=by show _=_;rw [hL.out,ltF_lit HSY.out hlit hM,hd]
     clear hd
     subst hdv
     go_wp2
     go_region_with ((go_at_call 126;refine HS.out.mono ?_;rintro e w4 ⟨rfl,hr4,hk4⟩;have HR4:=hid hr4;clear hr4))
     all_goals
      go_wp2_with (go_at_call 124;refine (add_ok _ _ _ _ _ _ _ _ d HR4.out hM (by omega)).mono ?_;rintro e w5 ⟨rfl,⟨tv5,hr5⟩,hk5⟩)
      refine ⟨⟨f,r,u ++ [d],by omega,by omega,HN,⟨_,hr5⟩,(hK.drew.trans hk4).trans hk5⟩,?_⟩
      rw [hr5.pos,HPO.out]
      omega
    ·have HN:Hid (L = .no 6 u):=by show _=_;rw [hL.out,ltF_big HSY.out hlit hM]
     clear hd
     subst hdv
     go_wp2
     go_region_with ((go_at_call 126;refine HS.out.mono ?_;rintro e w4 ⟨rfl,hr4,hk4⟩;have HR4:=hid hr4;clear hr4))
     all_goals
      go_wp2_with (go_at_call 124;refine (add_no _ _ _ _ _ _ _ _ d HR4.out (by have:=HR4.out.len;omega)).mono ?_;rintro e w5 ⟨rfl,⟨p5,hr5⟩,hk5⟩)
      rw [HN.out]
      exact ⟨rfl,rfl,⟨_,_,hr5⟩,(hK.drew.trans hk4).trans hk5⟩
   ·have b1:decide (v < 256)=false:=by simpa using hlit
    by_cases h256:v=256
    ·have HN:Hid (L = .ok r u):=by show _=_;rw [hL.out,ltF_end HSY.out h256]
     subst h256
     go_wp2
     go_region_with ((go_at_call 126;refine HS.out.mono ?_;rintro e w4 ⟨rfl,hr4,hk4⟩;have HR4:=hid hr4;clear hr4))
     all_goals
      go_wp2
      first | go_end0 | refine bodyPost_ret (results_none rfl _ _ _) rfl ?_
      rw [HN.out]
      exact ⟨rfl,⟨_,HR4.out⟩,hK.drew.trans hk4⟩
    ·have b2:(v == 256)=false:=beq_eq_false_iff_ne.2 h256
     by_cases h286:v < 286
     ·have b3:decide (v < 286)=true:=by simpa using h286
      obtain ⟨l,hl⟩:∃ l,l=(agn (v - 257).toNat).1:=⟨_,rfl⟩
      obtain ⟨m,hml⟩:∃ m,m=(agn (v - 257).toNat).2:=⟨_,rfl⟩
      have hbk:=agn_le (v - 257).toNat (by omega)
      rw [<- hl,<- hml] at hbk
      have hl9:l<=259:=Nat.le_trans (Nat.le_add_right _ _) hbk.2.1
      have HLl:=hid hl
      have HMm:=hid hml
      have cy:wr.cell? ⟨b,1,none⟩=some (.pointer (some ⟨y,0,none⟩)):=by rw [cell_of_row wr b 1 _ 187 (0,0) HB.out];rfl
      by_cases hbits:r+m<=8*s.size
      ·obtain ⟨n,hn⟩:∃ n,n=l+val s r m:=⟨_,rfl⟩
       have hvl:=val_lt s r m
       have hn2:n<=258:=by omega
       have HNn:=hid hn
       have HN0:=ltF_agn (M:=M) (zb:=zb) (f:=f) (t:=u) HSY.out (by omega) h286 (by rw [<- hml];exact hbits)
       rw [<- hl,<- hml,<- hn] at HN0
       have HN:=hid HN0
       clear hl hml hn hvl HN0
       cases hg:agF M zb s n (r+m) u with
       | ok p7 t7 =>
        have HG:=hid hg
        have hge:=agF_end hg
        have HL7:Hid (L=ltF M za zb s f p7 t7):=by show _=_;rw [hL.out,HN.out,hg]
        clear hg
        go_wp2
        go_region_with ((go_at_call 126;refine HS.out.mono ?_;rintro e w4 ⟨rfl,hr4,hk4⟩;have HR4:=hid hr4;clear hr4))
        all_goals
         have cy4:w4.cell? ⟨b,1,none⟩=some (.pointer (some ⟨y,0,none⟩)):=by rw [cell_of_row w4 b 1 _ 187 (0,0) (hk4.cells (w:=wr.drew) HB.out (by decide) (by decide))];rfl
         go_wp2
         go_region_with (first | (go_at_call 110;refine (again_span _ (by omega) (by omega) _).mono ?_;rintro e w5 ⟨rfl,hb5⟩;rw [<- HLl.out,<- HMm.out];have cy5:w5.cell? ⟨b,1,none⟩=some (.pointer (some ⟨y,0,none⟩)):=((hb5.cell (p:=⟨b,1,none⟩) (World.block_lt_of_cell? w4 _ cy4)).trans cy4)) | (go_at_call 128;refine (within_ok _ B s r _ u M fx (by exact (HR4.out.drew.below hb5)) l m (by omega) (by omega) hbits).mono ?_;rintro e w6 ⟨rfl,hr6,hk6⟩;rw [<- HNn.out];have hkk:Kp 90 B w4 w6:=(((Kp.refl 90 B w4).drew).trans (Kp.ofBelow hb5 (Nat.le_of_lt HR4.out.drew.lt))).trans hk6;have cy6:w6.cell? ⟨b,1,none⟩=some (.pointer (some ⟨y,0,none⟩)):=(by rw [cell_of_row w6 b 1 _ 187 (0,0) (hkk.cells (hk4.cells (w:=wr.drew) HB.out (by decide) (by decide)) (by decide) (by decide))];rfl);have HR6:=hid hr6;clear hr6) | (go_at_call 127;refine (again_any w6 B s (r+m) _ u M fx y zb n HR6.out (((HY.out.drew).kp hk4 (.inl rfl)).kp hkk (.inl rfl)) hmb hn2 (by omega)).mono ?_;rw [HG.out];rintro e w7 ⟨rfl,⟨tv7,hr7⟩,hk7⟩))
         all_goals
          go_wp2
          refine ⟨⟨f,p7,t7,hge.2,by omega,HL7,⟨_,hr7⟩,((hK.drew.trans hk4).trans hkk).trans hk7⟩,?_⟩
          rw [hr7.pos,HPO.out]
          omega
       | no e7 t7 =>
        have HG:=hid hg
        have HL7:Hid (L = .no e7 t7):=by show _=_;rw [hL.out,HN.out,hg]
        clear hg
        go_wp2
        go_region_with ((go_at_call 126;refine HS.out.mono ?_;rintro e w4 ⟨rfl,hr4,hk4⟩;have HR4:=hid hr4;clear hr4))
        all_goals
         have cy4:w4.cell? ⟨b,1,none⟩=some (.pointer (some ⟨y,0,none⟩)):=by rw [cell_of_row w4 b 1 _ 187 (0,0) (hk4.cells (w:=wr.drew) HB.out (by decide) (by decide))];rfl
         go_wp2
         go_region_with (first | (go_at_call 110;refine (again_span _ (by omega) (by omega) _).mono ?_;rintro e w5 ⟨rfl,hb5⟩;rw [<- HLl.out,<- HMm.out];have cy5:w5.cell? ⟨b,1,none⟩=some (.pointer (some ⟨y,0,none⟩)):=((hb5.cell (p:=⟨b,1,none⟩) (World.block_lt_of_cell? w4 _ cy4)).trans cy4)) | (go_at_call 128;refine (within_ok _ B s r _ u M fx (by exact (HR4.out.drew.below hb5)) l m (by omega) (by omega) hbits).mono ?_;rintro e w6 ⟨rfl,hr6,hk6⟩;rw [<- HNn.out];have hkk:Kp 90 B w4 w6:=(((Kp.refl 90 B w4).drew).trans (Kp.ofBelow hb5 (Nat.le_of_lt HR4.out.drew.lt))).trans hk6;have cy6:w6.cell? ⟨b,1,none⟩=some (.pointer (some ⟨y,0,none⟩)):=(by rw [cell_of_row w6 b 1 _ 187 (0,0) (hkk.cells (hk4.cells (w:=wr.drew) HB.out (by decide) (by decide)) (by decide) (by decide))];rfl);have HR6:=hid hr6;clear hr6) | (go_at_call 127;refine (again_any w6 B s (r+m) _ u M fx y zb n HR6.out (((HY.out.drew).kp hk4 (.inl rfl)).kp hkk (.inl rfl)) hmb hn2 (by omega)).mono ?_;rw [HG.out];rintro e w7 ⟨rfl,⟨p7,tv7,hr7⟩,hk7⟩;have HD7:Hid (Did B s M fx L w (gone e7) w7):=(by rw [HL7.out];exact ⟨rfl,⟨_,_,hr7⟩,((hK.drew.trans hk4).trans hkk).trans hk7⟩);go_wp2;refine dead (P:=Tryz.prog) (by exact ⟨rfl,HD7.out⟩) w ?_))
         all_goals trivial
      ·have HN:Hid (L = .no 1 u):=by show _=_;rw [hL.out,ltF_bits HSY.out (by omega) h286 (by rw [<- hml];exact hbits)]
       clear hl hml
       go_wp2
       go_region_with ((go_at_call 126;refine HS.out.mono ?_;rintro e w4 ⟨rfl,hr4,hk4⟩;have HR4:=hid hr4;clear hr4))
       all_goals
        have cy4:w4.cell? ⟨b,1,none⟩=some (.pointer (some ⟨y,0,none⟩)):=by rw [cell_of_row w4 b 1 _ 187 (0,0) (hk4.cells (w:=wr.drew) HB.out (by decide) (by decide))];rfl
        go_wp2
        go_region_with (first | (go_at_call 110;refine (again_span _ (by omega) (by omega) _).mono ?_;rintro e w5 ⟨rfl,hb5⟩;rw [<- HLl.out,<- HMm.out];have cy5:w5.cell? ⟨b,1,none⟩=some (.pointer (some ⟨y,0,none⟩)):=((hb5.cell (p:=⟨b,1,none⟩) (World.block_lt_of_cell? w4 _ cy4)).trans cy4)) | (go_at_call 128;refine (within_no _ B s r _ u M fx (by exact (HR4.out.drew.below hb5)) l m (by omega) hbits).mono ?_;rintro e w6 ⟨rfl,⟨p6,hr6⟩,hk6⟩;have HD6:Hid (Did B s M fx L w (gone 1) w6):=(by rw [HN.out];exact ⟨rfl,⟨_,_,hr6⟩,(((hK.drew.trans hk4).drew).trans (Kp.ofBelow hb5 (Nat.le_of_lt HR4.out.drew.lt))).trans hk6⟩);go_wp2;refine dead (P:=Tryz.prog) (by exact ⟨rfl,HD6.out⟩) w ?_))
        all_goals trivial
     ·have b3:decide (v < 286)=false:=by simpa using h286
      have HN:Hid (L = .no 4 u):=by show _=_;rw [hL.out,ltF_not HSY.out (by omega)]
      go_wp2
      go_region_with ((go_at_call 126;refine HS.out.mono ?_;rintro e w4 ⟨rfl,hr4,hk4⟩;have HR4:=hid hr4;clear hr4))
      all_goals
       go_wp2_with (go_at_call 82;refine (give_any _ _).mono ?_;rintro e w' ⟨rfl,rfl⟩)
       rw [HN.out]
       exact ⟨rfl,rfl,⟨_,_,HR4.out⟩,hK.drew.trans hk4⟩
end Go.Proofs.YthdmjmnkhlpnnabGreatDoor
