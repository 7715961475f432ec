import Derived.Test.YthdmjmnkhlpnnabGreatDoorZ01
import Derived.WalkKit
import Derived.WalkSpells
import Derived.WalkLawsBesides
import Derived.Test.YthdmjmnkhlpnnabGreatDoorZ02
import Derived.Test.YthdmjmnkhlpnnabGreatDoorZ13
import Derived.Laws.BitsAllLaws
import Derived.Laws.BitsLemmas
import Derived.Deep.DeepCutAuto
import Derived.Test.YthdmjmnkhlpnnabGreatDoorZ15
import Derived.Test.YthdmjmnkhlpnnabGreatDoorZ16
namespace Go.Proofs.YthdmjmnkhlpnnabGreatDoor
open Go.RowKit
def adl (l:List UInt8):Nat × Nat:=l.foldl (fun p c => ((p.1+c.toNat) % 65521,(p.2+(p.1+c.toNat) % 65521) % 65521)) (1,0)
theorem adl_snoc (l:List UInt8) (c:UInt8):adl (l ++ [c])=(((adl l).1+c.toNat) % 65521,((adl l).2+((adl l).1+c.toNat) % 65521) % 65521):=by
 simp [adl]
theorem take_snoc (s:ByteArray) (k:Nat) (h:k < s.size):s.data.toList.take (k+1)=s.data.toList.take k ++ [s[k]]:=by
 rw [List.take_succ_eq_append_getElem (by simpa using h)];rfl
theorem or_add (y x c:Nat) (hc:c=2 ^ 16) (hx:x < c):y*c ||| x=y*c+x:=by
 subst hc
 rw [<- Nat.shiftLeft_eq]
 exact (Nat.shiftLeft_add_eq_or_of_lt (a:=y) (b:=x) (i:=16) hx).symm
theorem or_shift (y x:Nat) (hy:y < 65536) (hx:x < 65536):bits BinOp.or IntKind.u32 (↑y*65536) ↑x=65536*(y:Int)+x:=by
 have h:=u32_or_nat (y*65536) x (by omega) (by omega)
 have h2:=or_add y x 65536 (by decide) hx
 have e:((y*65536:Nat):Int)=(y:Int)*65536:=by omega
 rw [e] at h
 have e2:((y*65536 ||| x:Nat):Int)=65536*(y:Int)+x:=by
  generalize y*65536 ||| x=z at *
  omega
 exact h.trans e2
set_option maxHeartbeats 400000 in
theorem refsum_any (s:ByteArray) (w:World) (hs:s.size<=maxLen) :
  Calls Tryz.prog 92 #[.string s] w fun e w' => e = .returned (.int .i64 (65536*(adl s.data.toList).2+(adl s.data.toList).1)) /\ w=w':=by
 unfold maxLen at hs
 go_enter Tryz.func92,Tryz.ntmps92
 go_wp2
 go_loop [3,4,5] (fun a b i => ∃ k x y:Nat,k<=s.size /\ i = .int .i64 k /\ x < 65521 /\ y < 65521 /\ Hid (adl (s.data.toList.take k)=(x,y)) /\ a = .int .i64 x /\ b = .int .i64 y) (fun _ _ i => s.size - (intOf i).toNat)
 case atStart => exact ⟨0,1,0,Nat.zero_le _,rfl,by omega,by omega,rfl,rfl,rfl⟩
 case round =>
  obtain ⟨k,x,y,hk,rfl,hx,hy,HD,rfl,rfl⟩:=hrel
  by_cases hlt:k < s.size
  ·have HS:Hid (adl (s.data.toList.take (k+1))=((x+s[k].toNat) % 65521,(y+(x+s[k].toNat) % 65521) % 65521)):=by
    show _=_
    rw [take_snoc s k hlt,adl_snoc,HD.out]
   have hb:s[k].toNat < 256:=s[k].toNat_lt
   go_wp2
   go_round
   case rel => exact ⟨k+1,_,_,by omega,by go_num,by omega,by omega,HS,by go_num,by go_num⟩
   case measure => simp [intOf];omega
  ·go_wp2
   go_ret
   refine ⟨ret_int ?_,rfl⟩
   have:=HD.out
   rw [List.take_of_length_le (by simp;omega)] at this
   rw [this]
set_option maxHeartbeats 400000 in
theorem sumof_any (s:ByteArray) (w:World) (hs:s.size<=maxLen) :
  Calls Tryz.prog 143 #[.string s] w fun e w' => e = .returned (.int .u32 (65536*(adl s.data.toList).2+(adl s.data.toList).1)) /\ w=w':=by
 unfold maxLen at hs
 go_enter Tryz.func143,Tryz.ntmps143
 go_wp2
 go_loop [3,4,8] (fun a b i => ∃ k x y:Nat,k<=s.size /\ i = .int .i64 k /\ x < 65521 /\ y < 65521 /\ Hid (adl (s.data.toList.take k)=(x,y)) /\ a = .int .u32 x /\ b = .int .u32 y) (fun _ _ i => s.size - (intOf i).toNat)
 case atStart => exact ⟨0,1,0,Nat.zero_le _,rfl,by omega,by omega,rfl,rfl,rfl⟩
 case round =>
  obtain ⟨k,x,y,hk,rfl,hx,hy,HD,rfl,rfl⟩:=hrel
  by_cases hlt:k < s.size
  ·have HS:Hid (adl (s.data.toList.take (k+1))=((x+s[k].toNat) % 65521,(y+(x+s[k].toNat) % 65521) % 65521)):=by
    show _=_
    rw [take_snoc s k hlt,adl_snoc,HD.out]
   have hb:s[k].toNat < 256:=s[k].toNat_lt
   go_wp2
   go_round
   case rel => exact ⟨k+1,_,_,by omega,by go_num,by omega,by omega,HS,by go_num,by go_num⟩
   case measure => simp [intOf];omega
  ·go_wp2
   go_ret
   refine ⟨ret_int ?_,rfl⟩
   have:=HD.out
   rw [List.take_of_length_le (by simp;omega)] at this
   rw [this]
   exact or_shift y x (by omega) (by omega)
end Go.Proofs.YthdmjmnkhlpnnabGreatDoor
namespace Go.Proofs.YthdmjmnkhlpnnabGreatDoor
open Go.RowKit
def okH (a b:Nat):Bool:=decide (a % 16=8) && (decide (a / 16<=7) && (decide (b / 32 % 2=0) && decide ((256*a+b) % 31=0)))
theorem or_256 (x y:Nat) (hx:x < 65536) (hy:y < 256):bits BinOp.or IntKind.i64 ((x:Int)*256) (y:Int)=((256*x+y:Nat):Int):=by
 have e2:(2:Nat) ^ 62=4611686018427387904:=by decide
 have h:=(bits_nat .i64 62 (by decide) wraps_i64 (x*256) y (by omega) (by omega)).2
 have e3:x*256 ||| y=256*x+y:=by
  have:=Nat.two_pow_add_eq_or_of_lt (i:=8) (b:=y) (by omega) x
  rw [show (2:Nat) ^ 8=256 from rfl] at this
  rw [Nat.mul_comm,<- this]
 rw [e3] at h
 have e4:((x*256:Nat):Int)=(x:Int)*256:=by omega
 rw [e4] at h
 exact h
theorem and_1 (y:Nat) (hy:y < 256):bits BinOp.and IntKind.u8 ((y:Int) / 32) 1=((y / 32 % 2:Nat):Int):=by
 have h:=u8_and_nat (y / 32) 1 (by omega) (by omega)
 rw [Nat.and_one_is_mod] at h
 rw [<- h]
 congr 1
set_option maxHeartbeats 800000 in
theorem isBegin_any (a b:UInt8) (w:World) :
  Calls Tryz.prog 141 #[.int .u8 a.toNat,.int .u8 b.toNat] w fun e w' => e = .returned (.bool (okH a.toNat b.toNat)) /\ w=w':=by
 have ha':a.toNat < 256:=a.toNat_lt
 have hb':b.toNat < 256:=b.toNat_lt
 generalize a.toNat=x at ha' ⊢
 generalize b.toNat=y at hb' ⊢
 have b1:bits BinOp.and IntKind.u8 (x:Int) 15=(x:Int) % 16:=u8_and15 _ (by omega) (by omega)
 have b2:=and_1 y hb'
 have b3:=or_256 x y (by omega) hb'
 go_enter Tryz.func141,Tryz.ntmps141
 go_wp2
 all_goals
  go_ret
  refine ⟨?_,rfl⟩
  refine congrArg (fun b => Ending.returned (.bool b)) ?_
  unfold okH
  rw [Bool.eq_iff_iff]
  simp
  omega
def num4 (s:ByteArray):Nat->Nat
 | 0 => 0
 | k+1 => 256*num4 s k+byt s k
theorem num4_lt (s:ByteArray) (k:Nat):num4 s k < 256 ^ k:=by
 induction k with
 | zero => simp [num4]
 | succ k ih =>
  have:=byt_lt s k
  rw [num4,Nat.pow_succ]
  omega
theorem num4_bound (s:ByteArray) (k:Nat) (h:k<=3):num4 s k < 16777216:=by
 have h1:=num4_lt s k
 have h2:256 ^ k<=256 ^ 3:=Nat.pow_le_pow_right (by omega) h
 have h3:(256:Nat) ^ 3=16777216:=by decide
 omega
theorem or_u32 (x y:Nat) (hx:x < 16777216) (hy:y < 256):bits BinOp.or IntKind.u32 ((x:Int)*256) (y:Int)=((256*x+y:Nat):Int):=by
 have h:=u32_or_nat (x*256) y (by omega) (by omega)
 have e3:x*256 ||| y=256*x+y:=by
  have:=Nat.two_pow_add_eq_or_of_lt (i:=8) (b:=y) (by omega) x
  rw [show (2:Nat) ^ 8=256 from rfl] at this
  rw [Nat.mul_comm,<- this]
 rw [e3] at h
 have e4:((x*256:Nat):Int)=(x:Int)*256:=by omega
 rw [e4] at h
 exact h
set_option maxHeartbeats 800000 in
theorem fnumber_any (s:ByteArray) (w:World) (hs:s.size=4) :
  Calls Tryz.prog 142 #[.string s] w fun e w' => e = .returned (.int .u32 (num4 s 4)) /\ w=w':=by
 have HS:=hid hs
 have hs1:s.size<=4:=by omega
 clear hs
 go_enter Tryz.func142,Tryz.ntmps142
 go_wp2
 go_loop [3,7] (fun n i => ∃ (k x:Nat),k<=s.size /\ i = .int .i64 k /\ Hid (x=num4 s k) /\ n = .int .u32 x) (fun _ i => s.size - (intOf i).toNat)
 case atStart => exact ⟨0,0,Nat.zero_le _,rfl,rfl,rfl⟩
 case round =>
  obtain ⟨k,x,hk,rfl,HX,rfl⟩:=hrel
  by_cases hlt:k < s.size
  ·have hx:x < 16777216:=by rw [HX.out];exact num4_bound s k (by omega)
   have hb:s[k].toNat < 256:=s[k].toNat_lt
   have b1:=or_u32 x s[k].toNat hx hb
   have HN:Hid (256*x+s[k].toNat=num4 s (k+1)):=by show _=_;rw [num4,HX.out,byt_get s k hlt]
   go_wp2
   go_round
   case rel => exact ⟨k+1,256*x+s[k].toNat,by omega,by go_num,HN,by go_num⟩
   case measure => simp [intOf];omega
  ·have HE:Hid (k=4):=by show k=4;have:=HS.out;omega
   go_wp2
   go_ret
   refine ⟨ret_int ?_,rfl⟩
   rw [HX.out,HE.out]
def bgF (s:ByteArray):Nat:=if s.size < 2 then 1 else if okH (byt s 0) (byt s 1)=true then 0 else 7
set_option maxHeartbeats 800000 in
theorem begin_any (s:ByteArray) (w:World) (hs:s.size<=16777216) :
  Calls Tryz.prog 90 #[.string s] w fun e w' => e = .returned (.int .i64 (bgF s)) /\ ∃ n,w'=w.drewN n:=by
 by_cases h2:s.size < 2
 ·have HB:Hid (bgF s=1):=by show _=_;unfold bgF;rw [if_pos h2]
  go_enter Tryz.func90,Tryz.ntmps90
  go_wp2
  go_ret
  rw [HB.out]
  exact ⟨rfl,0,rfl⟩
 ·have h0:0 < s.size:=by omega
  have h1:1 < s.size:=by omega
  have h1a:(1:Int) < (s.size:Int):=by omega
  have h1b:decide ((1:Int) < (s.size:Int))=true:=by simp;omega
  have h1c:¬ s.size<=1:=by omega
  have h1d:¬ (s.size:Int)<=1:=by omega
  have HI:Hid (∀ u:World,Calls Tryz.prog 141 #[.int .u8 s[0].toNat,.int .u8 s[1].toNat] u fun e w' => e = .returned (.bool (okH s[0].toNat s[1].toNat)) /\ w'=u):=fun u => (isBegin_any s[0] s[1] u).mono fun e w' ⟨h1,h2⟩ => ⟨h1,h2.symm⟩
  have HB:Hid (bgF s=if okH s[0].toNat s[1].toNat=true then 0 else 7):=by show _=_;unfold bgF;rw [if_neg h2,byt_get s 0 h0,byt_get s 1 h1]
  rw [HB.out]
  obtain ⟨b,hb⟩:∃ b,b=okH s[0].toNat s[1].toNat:=⟨_,rfl⟩
  rw [<- hb] at HI ⊢
  clear hb HB
  cases b
  ·go_enter Tryz.func90,Tryz.ntmps90
   go_wp2
   go_quiet ((go_at_call 141;refine Calls.quiet_of_same (HI.out _)))
   go_wp2
   go_ret
   exact ⟨rfl,_,rfl⟩
  ·go_enter Tryz.func90,Tryz.ntmps90
   go_wp2
   go_quiet ((go_at_call 141;refine Calls.quiet_of_same (HI.out _)))
   go_wp2
   go_ret
   exact ⟨rfl,_,rfl⟩
def adS (l:List UInt8):Nat:=65536*(adl l).2+(adl l).1
def enF (s t:ByteArray):Nat:=if s.size < 4 then 1 else if num4 s 4=adS t.data.toList then if 4 < s.size then 7 else 0 else 8
theorem extract_size (s:ByteArray) (a b:Nat) (hb:b<=s.size):(s.extract a b).size=b - a:=by
 rw [ByteArray.size_extract]
 omega
theorem byt_extract (s:ByteArray) (a b k:Nat) (hb:b<=s.size) (hk:a+k < b):byt (s.extract a b) k=byt s (a+k):=by
 rw [byt_get _ k (by rw [extract_size s a b hb];omega),byt_get _ (a+k) (by omega),ByteArray.getElem_extract]
theorem num4_extract (s:ByteArray) (k:Nat) (h:4<=s.size) (hk:k<=4):num4 (s.extract 0 4) k=num4 s k:=by
 induction k with
 | zero => rfl
 | succ k ih => rw [num4,num4,ih (by omega),byt_extract s 0 4 k h (by omega),Nat.zero_add]
theorem adS_int (l:List UInt8):((adS l:Nat):Int)=65536*((adl l).2:Int)+((adl l).1:Int):=by
 unfold adS
 omega
set_option maxHeartbeats 800000 in
theorem end_any (s t:ByteArray) (w:World) (hs:s.size<=16777216) (ht:t.size<=maxLen) :
  Calls Tryz.prog 91 #[.string s,.string t] w fun e w' => e = .returned (.int .i64 (enF s t)) /\ ∃ n,w'=w.drewN n:=by
 by_cases h4:s.size < 4
 ·have HB:Hid (enF s t=1):=by show _=_;unfold enF;rw [if_pos h4]
  clear ht
  go_enter Tryz.func91,Tryz.ntmps91
  go_wp2
  go_ret
  rw [HB.out]
  exact ⟨rfl,0,rfl⟩
 ·have h4a:4<=s.size:=by omega
  have h4b:(4:Int)<=(s.size:Int):=by omega
  obtain ⟨A,hA⟩:∃ A,A=adS t.data.toList:=⟨_,rfl⟩
  obtain ⟨N,hN⟩:∃ N,N=num4 s 4:=⟨_,rfl⟩
  have HNU:Hid (∀ u:World,Calls Tryz.prog 142 #[.string (s.extract 0 4)] u fun e w' => e = .returned (.int .u32 N) /\ u=w'):=fun u => (fnumber_any (s.extract 0 4) u (extract_size s 0 4 h4a)).mono fun e w' ⟨h1,h2⟩ => ⟨by rw [h1,num4_extract s 4 h4a (Nat.le_refl _),hN],h2⟩
  have HSU:Hid (∀ u:World,Calls Tryz.prog 143 #[.string t] u fun e w' => e = .returned (.int .u32 A) /\ u=w'):=fun u => (sumof_any t u ht).mono fun e w' ⟨h1,h2⟩ => ⟨by rw [h1,hA,adS_int],h2⟩
  have HB:Hid (enF s t=if N=A then if 4 < s.size then 7 else 0 else 8):=by show _=_;unfold enF;rw [if_neg h4,<- hA,<- hN]
  rw [HB.out]
  clear hA hN ht HB
  by_cases hNA:N=A
  ·subst hNA
   rw [if_pos rfl]
   have b1:((N:Int) != (N:Int))=false:=by simp
   by_cases h5:4 < s.size
   ·rw [if_pos h5]
    go_enter Tryz.func91,Tryz.ntmps91
    go_wp2_with (first | (go_at_call 142;refine (HNU.out _).mono ?_;rintro e w1 ⟨rfl,rfl⟩) | (go_at_call 143;refine (HSU.out _).mono ?_;rintro e w1 ⟨rfl,rfl⟩))
    go_ret
    exact ⟨rfl,0,rfl⟩
   ·rw [if_neg h5]
    go_enter Tryz.func91,Tryz.ntmps91
    go_wp2_with (first | (go_at_call 142;refine (HNU.out _).mono ?_;rintro e w1 ⟨rfl,rfl⟩) | (go_at_call 143;refine (HSU.out _).mono ?_;rintro e w1 ⟨rfl,rfl⟩))
    go_ret
    exact ⟨rfl,0,rfl⟩
  ·rw [if_neg hNA]
   have b1:((N:Int) != (A:Int))=true:=by rw [bne_iff_ne];omega
   go_enter Tryz.func91,Tryz.ntmps91
   go_wp2_with (first | (go_at_call 142;refine (HNU.out _).mono ?_;rintro e w1 ⟨rfl,rfl⟩) | (go_at_call 143;refine (HSU.out _).mono ?_;rintro e w1 ⟨rfl,rfl⟩))
   go_ret
   exact ⟨rfl,0,rfl⟩
end Go.Proofs.YthdmjmnkhlpnnabGreatDoor
namespace Go.Proofs.YthdmjmnkhlpnnabGreatDoor
open Go.RowKit
theorem cpy_len {M:Int} {b p n:Nat} {t t':List UInt8} {q:Nat} (h:cpy M b p n t = .ok q t'):t'.length=t.length+n:=by
 induction n generalizing t with
 | zero => simp [cpy] at h;rw [h.2];rfl
 | succ n ih =>
  rw [cpy] at h
  split at h
  ·have:=ih h
   simp at this
   omega
  ·simp at h
theorem agF_len {M:Int} {zb:List Int} {s:ByteArray} {n p:Nat} {t t':List UInt8} {q:Nat} (h:agF M zb s n p t = .ok q t'):t'.length=t.length+n:=by
 unfold agF at h
 split at h
 ·simp at h
 ·split at h
  ·simp at h
  ·split at h
   ·split at h
    ·simp at h
    ·exact cpy_len h
   ·simp at h
theorem agn_258:∀ k,k<=28->(agn k).1+2 ^ (agn k).2<=259:=by decide
theorem ltF_len {M:Int} {za zb:List Int} {s:ByteArray} {f p:Nat} {t t':List UInt8} {q:Nat} (h:ltF M za zb s f p t = .ok q t'):t'.length+258*p<=t.length+258*q:=by
 induction f generalizing p t with
 | zero => simp [ltF] at h;rw [h.1,h.2];omega
 | succ f ih =>
  rw [ltF] at h
  split at h
  ·simp at h
  ·rename_i v r hs
   have hr:=sym_ok hs
   split at h
   ·split at h
    ·have:=ih h
     simp at this
     omega
    ·simp at h
   ·split at h
    ·simp at h
     obtain ⟨rfl,rfl⟩:=h
     omega
    ·split at h
     ·split at h
      ·split at h
       ·rename_i p2 t2 ha
        have h1:=agF_len ha
        have h2:=agF_end ha
        have h3:=ih h
        have h4:=agn_258 (v - 257).toNat (by omega)
        have h5:=val_lt s r (agn (v - 257).toNat).2
        omega
       ·simp at h
      ·simp at h
     ·simp at h
theorem rawF_len {M:Int} {s:ByteArray} {n a:Nat} {t t':List UInt8} {q:Nat} (h:rawF M s n a t = .ok q t'):t'.length+8*a<=t.length+q:=by
 induction n generalizing a t with
 | zero => simp [rawF] at h;rw [<- h.1,h.2];omega
 | succ n ih =>
  rw [rawF] at h
  split at h
  ·split at h
   ·have:=ih h
    simp at this
    omega
   ·simp at h
  ·simp at h
theorem bkF_len {M:Int} {s:ByteArray} {k p:Nat} {t t':List UInt8} {q:Nat} (h:bkF M s k p t = .ok q t'):t'.length+258*p<=t.length+258*q:=by
 unfold bkF at h
 split at h
 ·unfold asF at h
  split at h
  ·split at h
   ·have h1:=rawF_len h
    have h2:=rawF_end h (by omega)
    omega
   ·simp at h
  ·simp at h
 ·split at h
  ·exact ltF_len h
  ·split at h
   ·split at h
    ·simp at h
    ·rename_i za zb r ho
     have h1:=ltF_len h
     have h2:=owF_len ho
     omega
   ·simp at h
theorem blF_len {M:Int} {s:ByteArray} {f p:Nat} {t t':List UInt8} {q:Nat} (h:blF M s f p t = .ok q t') (hp:p<=8*s.size):t'.length+258*p<=t.length+258*q /\ q<=8*s.size:=by
 induction f generalizing p t with
 | zero => simp [blF] at h;rw [<- h.1,h.2];omega
 | succ f ih =>
  rw [blF] at h
  split at h
  ·rename_i h3
   split at h
   ·simp at h
   ·rename_i r u hb
    have h1:=bkF_len hb
    have h2:=bkF_end hb h3
    split at h
    ·simp at h
     rw [<- h.1,<- h.2]
     omega
    ·have:=ih h h2.2
     omega
  ·simp at h
theorem inF_len {s:ByteArray} {M:Int} {p:Nat} {t:List UInt8} (h:inF s M = .ok p t):t.length<=258*p /\ p<=8*s.size:=by
 have:=blF_len h (by omega)
 simp at this
 omega
def ufF (s:ByteArray) (M:Int):ByteArray × Nat :=
 if bgF s ≠ 0 then (⟨#[]⟩,bgF s)
 else if (ou (s.extract 2 s.size) M).2.2 ≠ 0 then (⟨#[]⟩,(ou (s.extract 2 s.size) M).2.2)
 else if enF (s.extract (2+(ou (s.extract 2 s.size) M).2.1) s.size) (ou (s.extract 2 s.size) M).1 ≠ 0 then (⟨#[]⟩,enF (s.extract (2+(ou (s.extract 2 s.size) M).2.1) s.size) (ou (s.extract 2 s.size) M).1)
 else ((ou (s.extract 2 s.size) M).1,0)
theorem below_drewN (w:World) (n:Nat):Below w.heap.size w (w.drewN n):=((Kp.refl 0 w.heap.size w).drewN n).below
theorem Glo.drewN {w:World} (h:Glo w) (n:Nat):Glo (w.drewN n):=h
theorem ou_fit (s:ByteArray) (M:Int) (hs:s.size<=16777216) (h0:(ou s M).2.2=0):(ou s M).2.1<=s.size /\ (ou s M).1.size<=maxLen:=by
 unfold ou at h0 ⊢
 cases hr:inF s M with
 | ok p t =>
  have:=inF_len hr
  simp only
  unfold maxLen
  refine ⟨by omega,?_⟩
  show t.toArray.size<=_
  rw [List.size_toArray]
  omega
 | no e t =>
  exfalso
  rw [hr] at h0
  have he:=inF_no hr
  simp only at h0
  split at h0
  ·simp at h0
  ·simp at h0;exact he h0
theorem bg_size {s:ByteArray} (h:bgF s=0):2<=s.size:=by
 unfold bgF at h
 split at h
 ·simp at h
 ·omega
theorem extract_extract (s:ByteArray) (n:Nat):(s.extract 2 s.size).extract n (s.extract 2 s.size).size=s.extract (2+n) s.size:=by
 rw [ByteArray.extract_extract]
 congr 1
 rw [ByteArray.size_extract]
 omega
set_option maxHeartbeats 1600000 in
theorem unframe_any (w:World) (s:ByteArray) (m:Int) (hs:s.size<=16777216) (hg:Glo w) (hw:1 < w.heap.size) :
  Calls Tryz.prog 48 #[.string s,.int .i64 m] w fun e w' => e = .returned (.tuple #[.string (ufF s (max m 0)).1,.int .i64 (ufF s (max m 0)).2]) /\ Below w.heap.size w w':=by
 have HB:=hid (begin_any s w hs)
 obtain ⟨b,hb⟩:∃ b,b=bgF s:=⟨_,rfl⟩
 rw [<- hb] at HB
 obtain ⟨X,hX⟩:∃ X,X=ufF s (max m 0):=⟨_,rfl⟩
 rw [<- hX]
 by_cases h0:b=0
 ·have h2:=bg_size (hb ▸ h0)
  have h2a:(2:Int)<=(s.size:Int):=by omega
  obtain ⟨D,hD⟩:∃ D,D=s.extract 2 s.size:=⟨_,rfl⟩
  have hDs:D.size<=16777216:=by rw [hD,ByteArray.size_extract];omega
  have HI:Hid (∀ u:World,Glo u->1 < u.heap.size->Calls Tryz.prog 11 #[.string D,.int .i64 m] u fun e w' => e = .returned (.tuple #[.string (ou D (max m 0)).1,.int .i64 (ou D (max m 0)).2.1,.int .i64 (ou D (max m 0)).2.2]) /\ Below u.heap.size u w'):=fun u h1 h2 => inflate_any u D m hDs h1 h2
  obtain ⟨A,hA⟩:∃ A,A=(ou D (max m 0)).1:=⟨_,rfl⟩
  obtain ⟨N,hN⟩:∃ N,N=(ou D (max m 0)).2.1:=⟨_,rfl⟩
  obtain ⟨E,hE⟩:∃ E,E=(ou D (max m 0)).2.2:=⟨_,rfl⟩
  rw [<- hA,<- hN,<- hE] at HI
  have HD:=hid hD
  by_cases hE0:E=0
  ·have hfit:=ou_fit D (max m 0) hDs (by rw [<- hE];exact hE0)
   rw [<- hA,<- hN] at hfit
   have hND:(N:Int)<=(D.size:Int):=by omega
   obtain ⟨R,hRR⟩:∃ R,R=D.extract N D.size:=⟨_,rfl⟩
   have hR2:s.extract (2+N) s.size=R:=by rw [hRR,hD,extract_extract]
   have hRs:R.size<=16777216:=by rw [hRR,ByteArray.size_extract];omega
   have HEN:Hid (∀ u:World,Calls Tryz.prog 91 #[.string R,.string A] u fun e w' => e = .returned (.int .i64 (enF R A)) /\ ∃ n,w'=u.drewN n):=fun u => end_any R A u hRs hfit.2
   obtain ⟨f,hf⟩:∃ f,f=enF R A:=⟨_,rfl⟩
   rw [<- hf] at HEN
   have HXV:Hid (X=if f ≠ 0 then (⟨#[]⟩,f) else (A,0)):=by
    show X=_
    rw [hX]
    unfold ufF
    rw [<- hb,if_neg (by omega),<- hD,<- hE,if_neg (by omega),<- hA,<- hN,hR2,<- hf]
   have HRX:=hid hRR
   subst hE0 h0
   have HG:=hid hg
   clear hb hX hA hN hE hD hRR hR2 hf hfit hg
   by_cases hf0:f=0
   ·subst hf0
    go_enter Tryz.func48,Tryz.ntmps48
    go_wp2_with (first | (go_at_call 90;refine HB.out.mono ?_;rintro e w1 ⟨rfl,n1,rfl⟩) | (go_at_call 11;rw [<- HD.out];refine (HI.out _ (HG.out.drewN n1) (by simp;omega)).mono ?_;rintro e w2 ⟨rfl,hb2⟩;have HB2:=hid hb2;clear hb2) | (go_at_call 91;rw [<- HRX.out];refine (HEN.out _).mono ?_;rintro e w3 ⟨rfl,n3,rfl⟩))
    go_ret2
    rw [HXV.out]
    refine ⟨rfl,(below_drewN w n1).trans (HB2.out.trans ?_)⟩
    exact (below_drewN w2 n3).mono HB2.out.size
   ·have b1:((f:Int) != 0)=true:=by rw [bne_iff_ne];omega
    have HX2:Hid (X=(⟨#[]⟩,f)):=by show X=_;rw [HXV.out,if_pos hf0]
    go_enter Tryz.func48,Tryz.ntmps48
    go_wp2_with (first | (go_at_call 90;refine HB.out.mono ?_;rintro e w1 ⟨rfl,n1,rfl⟩) | (go_at_call 11;rw [<- HD.out];refine (HI.out _ (HG.out.drewN n1) (by simp;omega)).mono ?_;rintro e w2 ⟨rfl,hb2⟩;have HB2:=hid hb2;clear hb2) | (go_at_call 91;rw [<- HRX.out];refine (HEN.out _).mono ?_;rintro e w3 ⟨rfl,n3,rfl⟩))
    go_ret2
    rw [HX2.out]
    refine ⟨rfl,(below_drewN w n1).trans (HB2.out.trans ?_)⟩
    exact (below_drewN w2 n3).mono HB2.out.size
  ·have HXV:Hid (X=(⟨#[]⟩,E)):=by
    show X=_
    rw [hX]
    unfold ufF
    rw [<- hb,if_neg (by omega),<- hD,<- hE,if_pos hE0]
   have b1:((E:Int) != 0)=true:=by rw [bne_iff_ne];omega
   have HG:=hid hg
   subst h0
   clear hb hX hA hN hE hD hg
   go_enter Tryz.func48,Tryz.ntmps48
   go_wp2_with (first | (go_at_call 90;refine HB.out.mono ?_;rintro e w1 ⟨rfl,n1,rfl⟩) | (go_at_call 11;rw [<- HD.out];refine (HI.out _ (HG.out.drewN n1) (by simp;omega)).mono ?_;rintro e w2 ⟨rfl,hb2⟩;have HB2:=hid hb2;clear hb2))
   go_ret2
   rw [HXV.out]
   exact ⟨rfl,(below_drewN w n1).trans HB2.out⟩
 ·have HX:Hid (X=(⟨#[]⟩,b)):=by show _=_;rw [hX];unfold ufF;rw [<- hb,if_pos h0]
  have b1:((b:Int) != 0)=true:=by rw [bne_iff_ne];omega
  clear hb hX hg
  go_enter Tryz.func48,Tryz.ntmps48
  go_wp2_with (go_at_call 90;refine HB.out.mono ?_;rintro e w1 ⟨rfl,n,rfl⟩)
  go_ret2
  rw [HX.out]
  exact ⟨rfl,below_drewN w n⟩
end Go.Proofs.YthdmjmnkhlpnnabGreatDoor
