import Derived.Test.YthdmjmnkhlpnnabGreatDoorZ04
import Derived.Test.YthdmjmnkhlpnnabGreatDoorZ03
import Derived.Test.YthdmjmnkhlpnnabGreatDoorZ02
import Derived.Laws.IdiomStrings
import Derived.Laws.BytesArg
import Derived.Maps.OwnSet
import Derived.DeepKeys4
namespace Go.Proofs.YthdmjmnkhlpnnabGreatDoor
/-! how lengths are told by runs -/
def smR:List Int->Nat
 | [] => 0
 | z :: r => 1+(r.takeWhile fun x => x == z).length
theorem sm_le (l:List Int):smR l<=l.length:=by
 cases l with
 | nil => exact Nat.le_refl _
 | cons z r =>
  have:=(List.takeWhile_prefix (fun x => x == z) (l:=r)).length_le
  rw [smR,List.length_cons]
  omega
theorem sm_same (l:List Int) (j:Nat) (h:j < smR l):l.getD j 0=l.getD 0 0:=by
 cases l with
 | nil => simp [smR] at h
 | cons z r =>
  cases j with
  | zero => rfl
  | succ j =>
   rw [smR] at h
   have hj:j < (r.takeWhile fun x => x == z).length:=by omega
   have hp:=List.takeWhile_prefix (fun x => x == z) (l:=r)
   have h1:(r.takeWhile fun x => x == z)[j] ∈ (r.takeWhile fun x => x == z):=List.getElem_mem _
   have h2:=List.all_eq_true.1 (List.all_takeWhile (l:=r) (p:=fun x => x == z)) _ h1
   have h3:=hp.getElem hj
   have hl:=hp.length_le
   rw [List.getD_cons_succ,List.getD_cons_zero,List.getD_eq_getElem?_getD,List.getElem?_eq_getElem (by omega),Option.getD_some,<- h3]
   simpa using h2
theorem sm_all (l:List Int) (n:Nat) (hn:n<=l.length) (h:∀ j,j < n->l.getD j 0=l.getD 0 0):n<=smR l:=by
 cases l with
 | nil => simpa [smR] using hn
 | cons z r =>
  rw [smR]
  apply Classical.byContradiction
  intro hc
  have hp:=List.takeWhile_prefix (fun x => x == z) (l:=r)
  obtain ⟨m,hm⟩:∃ m,m=(r.takeWhile fun x => x == z).length:=⟨_,rfl⟩
  rw [<- hm] at hc
  have hml:m < r.length:=by simp only [List.length_cons] at hn;omega
  have h1:=h (m+1) (by omega)
  rw [List.getD_cons_succ,List.getD_cons_zero,List.getD_eq_getElem?_getD,List.getElem?_eq_getElem hml,Option.getD_some] at h1
  have h2:r=r.takeWhile (fun x => x == z) ++ r.dropWhile (fun x => x == z):=(List.takeWhile_append_dropWhile).symm
  have h3:(r.dropWhile fun x => x == z) ≠ []:=by
   intro e
   have:=congrArg List.length h2
   rw [e,List.append_nil,<- hm] at this
   omega
  have h4:=List.head_dropWhile_not (fun x => x == z) h3
  have h5:(r.dropWhile fun x => x == z).head h3=r[m]:=by
   rw [List.head_eq_getElem]
   have:r[m]=(r.takeWhile (fun x => x == z) ++ r.dropWhile (fun x => x == z))[m]'(by rw [<- h2];exact hml):=by congr 1
   rw [this,List.getElem_append_right (by omega)]
   congr 1
   omega
  rw [h5,h1] at h4
  simp at h4
def rnA (zs:List Int) (a:Nat):Nat × Nat :=
 if 11<=smR (zs.drop a) /\ zs.getD a 0=0 then (18,min (smR (zs.drop a)) 138)
 else if 3<=smR (zs.drop a) /\ zs.getD a 0=0 then (17,min (smR (zs.drop a)) 10)
 else if 3<=smR (zs.drop a) /\ 0 < a /\ zs.getD (a - 1) 0=zs.getD a 0 then (16,min (smR (zs.drop a)) 6)
 else ((zs.getD a 0).toNat,1)
def rnF (zs:List Int):Nat->Nat->List (Nat × Nat)
 | 0,_ => []
 | f+1,a => if a < zs.length then rnA zs a :: rnF zs f (a+(rnA zs a).2) else []
theorem drop_getD (zs:List Int) (a j:Nat):(zs.drop a).getD j 0=zs.getD (a+j) 0:=by
 rw [List.getD_eq_getElem?_getD,List.getElem?_drop,<- List.getD_eq_getElem?_getD]
theorem take_run (zs:List Int) (a n:Nat) (ha:a < zs.length) (hn:n<=smR (zs.drop a)):zs.take (a+n)=zs.take a ++ List.replicate n (zs.getD a 0):=by
 induction n with
 | zero => simp
 | succ n ih =>
  have hs:=sm_le (zs.drop a)
  rw [List.length_drop] at hs
  have h1:=sm_same (zs.drop a) n (by omega)
  rw [drop_getD,drop_getD,Nat.add_zero] at h1
  rw [<- Nat.add_assoc,take_snocI zs (a+n) (by omega),ih (by omega),h1,List.replicate_succ',List.append_assoc]
theorem sm_pos (zs:List Int) (a:Nat) (ha:a < zs.length):1<=smR (zs.drop a):=by
 apply sm_all _ 1 (by rw [List.length_drop];omega)
 intro j hj
 rw [show j=0 by omega]
theorem rnA_ok (zs:List Int) (hz:∀ i,0<=zs.getD i 0 /\ zs.getD i 0<=15) (a:Nat) (ha:a < zs.length) :
  1<=(rnA zs a).2 /\ (rnA zs a).2<=smR (zs.drop a) /\ (rnA zs a).1<=18 /\ (tms (rnA zs a).1).1<=(rnA zs a).2 /\ (rnA zs a).2 < (tms (rnA zs a).1).1+2 ^ (tms (rnA zs a).1).2 /\ ((rnA zs a).1=16->0 < a) /\ tol (rnA zs a).1 (zs.take a)=zs.getD a 0:=by
 have h1:=sm_pos zs a ha
 have hza:=hz a
 have t18:tms 18=(11,7):=by decide
 have t17:tms 17=(3,3):=by decide
 have t16:tms 16=(3,2):=by decide
 unfold rnA
 split
 ·rename_i h
  simp only
  rw [t18]
  refine ⟨by omega,by omega,by omega,by simp only;omega,by simp only;omega,by omega,?_⟩
  rw [h.2]
  rfl
 ·split
  ·rename_i h
   simp only
   rw [t17]
   refine ⟨by omega,by omega,by omega,by simp only;omega,by simp only;omega,by omega,?_⟩
   rw [h.2]
   rfl
  ·split
   ·rename_i h
    simp only
    rw [t16]
    refine ⟨by omega,by omega,by omega,by simp only;omega,by simp only;omega,fun _ => h.2.1,?_⟩
    show (if ((16:Nat):Int) < 16 then _ else if (16:Int) < ((16:Nat):Int) then _ else _)=_
    rw [if_neg (by omega),if_neg (by omega),List.length_take,show min a zs.length - 1=a - 1 by omega,<- h.2.2]
    rw [List.getD_eq_getElem?_getD,List.getElem?_take,if_pos (by omega),<- List.getD_eq_getElem?_getD]
   ·simp only
    have e:tms (zs.getD a 0).toNat=(1,0):=by
     unfold tms
     rw [if_neg (by omega),if_neg (by omega),if_neg (by omega)]
    rw [e]
    refine ⟨by omega,by omega,by omega,by simp only;omega,by simp only;omega,by omega,?_⟩
    unfold tol
    rw [if_pos (by omega)]
    omega
theorem rnF_says (zs:List Int) (hz:∀ i,0<=zs.getD i 0 /\ zs.getD i 0<=15) (f a:Nat) (ha:a<=zs.length) (hf:zs.length<=f+a):exr (rnF zs f a) (zs.take a)=zs:=by
 induction f generalizing a with
 | zero => rw [rnF,exr,List.take_of_length_le (by omega)]
 | succ f ih =>
  rw [rnF]
  split
  ·rename_i h
   obtain ⟨h1,h2,-,-,-,-,h7⟩:=rnA_ok zs hz a h
   have hs:=sm_le (zs.drop a)
   rw [List.length_drop] at hs
   rw [exr,h7,<- take_run zs a _ h h2]
   exact ih _ (by omega) (by omega)
  ·rw [exr,List.take_of_length_le (by omega)]
theorem rnF_ok (zs zc:List Int) (hz:∀ i,0<=zs.getD i 0 /\ zs.getD i 0<=15) (f a:Nat) (ha:a<=zs.length) (hc:∀ r,r ∈ rnF zs f a->0 < zc.getD r.1 0):okr zc (rnF zs f a) (zs.take a):=by
 induction f generalizing a with
 | zero => rw [rnF];trivial
 | succ f ih =>
  rw [rnF] at hc ⊢
  split
  ·rename_i h
   rw [if_pos h] at hc
   obtain ⟨h1,h2,-,h4,h5,h6,h7⟩:=rnA_ok zs hz a h
   have hs:=sm_le (zs.drop a)
   rw [List.length_drop] at hs
   refine ⟨h4,h5,hc _ (by simp),fun e => by rw [List.length_take];have:=h6 e;omega,?_⟩
   rw [h7,<- take_run zs a _ h h2]
   exact ih _ (by omega) (fun r hr => hc r (by simp [hr]))
  ·trivial
theorem rnF_le (zs:List Int) (hz:∀ i,0<=zs.getD i 0 /\ zs.getD i 0<=15) (f a:Nat):∀ r,r ∈ rnF zs f a->r.1<=18:=by
 induction f generalizing a with
 | zero => intro r hr;simp [rnF] at hr
 | succ f ih =>
  intro r hr
  rw [rnF] at hr
  split at hr
  ·rename_i h
   rcases List.mem_cons.1 hr with rfl | hr
   ·exact (rnA_ok zs hz a h).2.2.1
   ·exact ih _ r hr
  ·simp at hr
theorem exr_of (v:Nat) (hv:v ≠ 16) (q:List (Nat × Nat)) (h:∀ r,r ∈ q->r.1=v) (l:List Int):∀ x,x ∈ exr q l->x ∈ l ∨ x=tol v []:=by
 induction q generalizing l with
 | nil => intro x hx;exact .inl hx
 | cons r q ih =>
  intro x hx
  have e:tol r.1 l=tol v []:=by
   rw [h r (by simp)]
   unfold tol
   split
   ·rfl
   ·split
    ·rfl
    ·omega
  rw [exr,e] at hx
  rcases ih (fun r hr => h r (by simp [hr])) _ x hx with h1 | h1
  ·rcases List.mem_append.1 h1 with h2 | h2
   ·exact .inl h2
   ·exact .inr (List.mem_replicate.1 h2).2
  ·exact .inr h1
theorem rnF_two (zs:List Int) (hz:∀ i,0<=zs.getD i 0 /\ zs.getD i 0<=15) (hl:257<=zs.length) (he:0 < zs.getD 256 0) (f:Nat) (hf:zs.length<=f):∃ r1 r2,r1 ∈ rnF zs f 0 /\ r2 ∈ rnF zs f 0 /\ r1.1 ≠ r2.1:=by
 obtain ⟨f,rfl⟩:∃ g,f=g+2:=⟨f - 2,by omega⟩
 have h0:=hz 0
 have hsay:=rnF_says zs hz (f+2) 0 (by omega) (by omega)
 rw [List.take_zero] at hsay
 have hin:rnA zs 0 ∈ rnF zs (f+2) 0:=by rw [rnF,if_pos (by omega)];simp
 apply Classical.byContradiction
 intro hn
 have hall:∀ r,r ∈ rnF zs (f+2) 0->r.1=(rnA zs 0).1:=fun r hr => Classical.byContradiction fun hne => hn ⟨r,_,hr,hin,hne⟩
 have h16:(rnA zs 0).1 ≠ 16:=fun e => by have:=(rnA_ok zs hz 0 (by omega)).2.2.2.2.2.1 e;omega
 have hx:=exr_of _ h16 _ hall []
 rw [hsay] at hx
 have hel:∀ i,i < zs.length->zs.getD i 0=tol (rnA zs 0).1 []:=fun i hi => by
  have hm:zs.getD i 0 ∈ zs:=by rw [List.getD_eq_getElem?_getD,List.getElem?_eq_getElem hi];exact List.getElem_mem hi
  rcases hx _ hm with h | h
  ·simp at h
  ·exact h
 have hsame:∀ i,i < zs.length->zs.getD i 0=zs.getD 0 0:=fun i hi => by rw [hel i hi,hel 0 (by omega)]
 have hpos:0 < zs.getD 0 0:=by rw [<- hsame 256 (by omega)];exact he
 have e0:rnA zs 0=((zs.getD 0 0).toNat,1):=by
  unfold rnA
  rw [if_neg (by omega),if_neg (by omega),if_neg (by omega)]
 have hs1:3<=smR (zs.drop 1):=by
  apply sm_all _ 3 (by rw [List.length_drop];omega)
  intro j hj
  rw [drop_getD,drop_getD,hsame _ (by omega),hsame (1+0) (by omega)]
 have e1:(rnA zs 1).1=16:=by
  unfold rnA
  rw [hsame 1 (by omega),if_neg (by omega),if_neg (by omega),if_pos ⟨hs1,by omega,rfl⟩]
 have hin1:rnA zs 1 ∈ rnF zs (f+2) 0:=by
  rw [rnF,if_pos (by omega),e0]
  simp only
  rw [rnF,if_pos (by omega)]
  simp
 have:=hall _ hin1
 rw [e1,e0] at this
 simp only at this
 have:=hz 0
 omega
/-! words: what they tell,how often each symbol is wanted -/
def om1 (n:Nat):Wd->Prop
 | .lit _ => True
 | .mat c b => 3<=c /\ c<=258 /\ 1<=b /\ b<=32768 /\ b<=n
def okm:List Wd->Nat->Prop
 | [],_ => True
 | x :: r,n => om1 n x /\ okm r (n+wn x)
theorem okm_append (a b:List Wd) (n:Nat):okm (a ++ b) n ↔ okm a n /\ okm b (n+wns a):=by
 induction a generalizing n with
 | nil => simp [okm,wns]
 | cons x a ih => simp only [List.cons_append,okm,ih,wns,and_assoc,Nat.add_assoc]
theorem exw_append (a b:List Wd) (t:List UInt8):exw (a ++ b) t=exw b (exw a t):=by
 induction a generalizing t with
 | nil => rfl
 | cons x a ih => cases x <;> simp only [List.cons_append,exw,ih]
theorem cpL_pre (b n:Nat) (pre t:List UInt8) (hb:b<=t.length):cpL b n (pre ++ t)=pre ++ cpL b n t:=by
 induction n generalizing t with
 | zero => rfl
 | succ n ih =>
  rw [cpL,cpL]
  have e:(pre ++ t).getD ((pre ++ t).length - b) 0=t.getD (t.length - b) 0:=by
   rw [List.getD_eq_getElem?_getD,List.getD_eq_getElem?_getD,List.length_append,List.getElem?_append_right (by omega),show pre.length+t.length - b - pre.length=t.length - b by omega]
  rw [e,List.append_assoc,ih _ (by rw [List.length_append];omega)]
theorem exw_pre (ws:List Wd) (pre t:List UInt8) (h:okm ws t.length):exw ws (pre ++ t)=pre ++ exw ws t:=by
 induction ws generalizing t with
 | nil => rfl
 | cons x r ih =>
  cases x with
  | lit b => rw [exw,exw,List.append_assoc,ih _ (by rw [List.length_append];exact h.2)]
  | mat c b =>
   obtain ⟨⟨h1,h2,h3,h4,h5⟩,h6⟩:=h
   rw [exw,exw,cpL_pre _ _ _ _ h5,ih _ (by rw [cpL_length];exact h6)]
theorem take_snocB (T:List UInt8) (k:Nat) (h:k < T.length):T.take (k+1)=T.take k ++ [T.getD k 0]:=by
 rw [List.take_add_one,List.getD_eq_getElem?_getD,List.getElem?_eq_getElem h]
 rfl
theorem cpL_same (T:List UInt8) (b c a:Nat) (h1:1<=b) (hb:b<=a) (hl:a+c<=T.length) (h:∀ j,j < c->T.getD (a+j) 0=T.getD (a - b+j) 0):cpL b c (T.take a)=T.take (a+c):=by
 induction c generalizing a with
 | zero => rfl
 | succ c ih =>
  have e0:=h 0 (by omega)
  have e1:(T.take a).getD ((T.take a).length - b) 0=T.getD a 0:=by
   rw [List.length_take,show min a T.length - b=a - b by omega,List.getD_eq_getElem?_getD,List.getElem?_take,if_pos (by omega),<- List.getD_eq_getElem?_getD]
   rw [Nat.add_zero,Nat.add_zero] at e0
   exact e0.symm
  rw [cpL,e1,<- take_snocB T a (by omega),ih (a+1) (by omega) (by omega) (fun j hj => by
    have:=h (j+1) (by omega)
    rw [show a+1+j=a+(j+1) by omega,show a+1 - b+j=a - b+(j+1) by omega]
    exact this)]
  congr 1
  omega
def inc (l:List Int) (i:Nat):List Int:=l.set i (l.getD i 0+1)
theorem inc_length (l:List Int) (i:Nat):(inc l i).length=l.length:=by simp [inc]
theorem inc_getD (l:List Int) (i j:Nat) (hi:i < l.length):(inc l i).getD j 0=if j=i then l.getD i 0+1 else l.getD j 0:=by
 unfold inc
 rw [List.getD_eq_getElem?_getD,List.getElem?_set]
 by_cases h:i=j
 ·subst h;simp [hi]
 ·rw [if_neg h,if_neg (fun e => h e.symm),<- List.getD_eq_getElem?_getD]
structure Cn where
 a:List Int
 b:List Int
 n:Nat
def cn0:Cn:=⟨List.replicate 286 0,List.replicate 30 0,0⟩
def cn1 (c:Cn):Wd->Cn
 | .lit x => ⟨inc c.a x.toNat,c.b,c.n⟩
 | .mat k b => ⟨inc c.a (ltr k),inc c.b (stp b),c.n+((agn (ltr k - 257)).2+(bck (stp b)).2)⟩
def cnw (ws:List Wd):Cn:=ws.foldl cn1 cn0
theorem cnw_snoc (ws:List Wd) (x:Wd):cnw (ws ++ [x])=cn1 (cnw ws) x:=by simp [cnw]
theorem cn1_len (c:Cn) (x:Wd):(cn1 c x).a.length=c.a.length /\ (cn1 c x).b.length=c.b.length:=by
 cases x <;> simp [cn1,inc_length]
theorem cn0_len:cn0.a.length=286 /\ cn0.b.length=30:=⟨List.length_replicate,List.length_replicate⟩
def dot:List Int->List Int->Int
 | c :: cs,z :: zs => c*z+dot cs zs
 | _,_ => 0
theorem dot_nil (zs:List Int):dot [] zs=0:=by cases zs <;> rfl
theorem dot_nil' (cs:List Int):dot cs []=0:=by cases cs <;> rfl
theorem dot_inc (cs zs:List Int) (i:Nat) (hi:i < cs.length):dot (inc cs i) zs=dot cs zs+zs.getD i 0:=by
 induction cs generalizing zs i with
 | nil => simp at hi
 | cons c cs ih =>
  cases zs with
  | nil => rw [dot_nil',dot_nil'];rfl
  | cons z zs =>
   cases i with
   | zero =>
    show (c+1)*z+dot cs zs=c*z+dot cs zs+z
    rw [Int.add_mul]
    omega
   | succ i =>
    show c*z+dot (inc cs i) zs=c*z+dot cs zs+zs.getD i 0
    rw [ih zs i (by simpa using hi)]
    omega
theorem dot_zero (n:Nat) (zs:List Int):dot (List.replicate n 0) zs=0:=by
 induction n generalizing zs with
 | zero => exact dot_nil zs
 | succ n ih =>
  cases zs with
  | nil => exact dot_nil' _
  | cons z zs => show 0*z+dot (List.replicate n 0) zs=0;rw [ih];omega
def bitsC (c:Cn) (za zb:List Int):Int:=c.n+dot (inc c.a 256) za+dot c.b zb
theorem wp1_bits (c:Cn) (x:Wd) (za zb:List Int) (n:Nat) (h:om1 n x) (la:c.a.length=286) (lb:c.b.length=30) (ha:∀ i,0<=za.getD i 0) (hb:∀ i,0<=zb.getD i 0) :
  (cn1 c x).n+dot (cn1 c x).a za+dot (cn1 c x).b zb=(c.n:Int)+dot c.a za+dot c.b zb+pl (wp1 za zb x):=by
 cases x with
 | lit b =>
  have:=ha b.toNat
  have:=b.toNat_lt
  simp only [cn1,wp1,pl,syp]
  rw [dot_inc _ _ _ (by omega)]
  omega
 | mat k b =>
  obtain ⟨h1,h2,h3,h4,h5⟩:=h
  have a1:=ltr_any k (by omega) h1
  have a2:=stp_le b h3 h4
  have:=ha (ltr k)
  have:=hb (stp b)
  simp only [cn1,wp1,pl,syp]
  rw [dot_inc _ _ _ (by omega),dot_inc _ _ _ (by omega)]
  omega
theorem fold_bits (ws:List Wd) (c:Cn) (za zb:List Int) (n:Nat) (h:okm ws n) (la:c.a.length=286) (lb:c.b.length=30) (ha:∀ i,0<=za.getD i 0) (hb:∀ i,0<=zb.getD i 0) :
  bitsC (ws.foldl cn1 c) za zb=(c.n:Int)+dot c.a za+dot c.b zb+pl (wps za zb ws):=by
 induction ws generalizing c n with
 | nil =>
  have:=ha 256
  unfold bitsC
  simp only [List.foldl_nil,wps,pl,syp]
  rw [dot_inc _ _ _ (by omega)]
  omega
 | cons x r ih =>
  have hl:=cn1_len c x
  rw [List.foldl_cons,ih _ _ h.2 (by omega) (by omega),wp1_bits c x za zb n h.1 la lb ha hb,wps,pl_append]
  omega
theorem cnw_bits (ws:List Wd) (za zb:List Int) (n:Nat) (h:okm ws n) (ha:∀ i,0<=za.getD i 0) (hb:∀ i,0<=zb.getD i 0):bitsC (cnw ws) za zb=pl (wps za zb ws):=by
 unfold cnw
 rw [fold_bits ws cn0 za zb n h cn0_len.1 cn0_len.2 ha hb]
 have e1:dot cn0.a za=0:=dot_zero 286 za
 have e2:dot cn0.b zb=0:=dot_zero 30 zb
 have e3:cn0.n=0:=rfl
 rw [e1,e2,e3]
 omega
theorem inc_mono (l:List Int) (i j:Nat) (hi:i < l.length):l.getD j 0<=(inc l i).getD j 0:=by
 rw [inc_getD l i j hi]
 split
 ·rename_i e;rw [e];omega
 ·exact Int.le_refl _
theorem inc_pos (l:List Int) (i:Nat) (hi:i < l.length) (h0:∀ j,0<=l.getD j 0):0 < (inc l i).getD i 0:=by
 rw [inc_getD l i i hi,if_pos rfl]
 have:=h0 i
 omega
structure CnOk (c:Cn) (k:Nat):Prop where
 la:c.a.length=286
 lb:c.b.length=30
 ba:∀ i,0<=c.a.getD i 0 /\ c.a.getD i 0<=k
 bb:∀ i,0<=c.b.getD i 0 /\ c.b.getD i 0<=k
 bn:c.n<=18*k
theorem rep_getD (n i:Nat):(List.replicate n (0:Int)).getD i 0=0:=by
 rw [List.getD_eq_getElem?_getD,List.getElem?_replicate]
 split <;> rfl
theorem cn0_ok:CnOk cn0 0:=by
 have ea:∀ i,cn0.a.getD i 0=0:=rep_getD 286
 have eb:∀ i,cn0.b.getD i 0=0:=rep_getD 30
 exact ⟨cn0_len.1,cn0_len.2,fun i => by rw [ea];omega,fun i => by rw [eb];omega,by have e3:cn0.n=0:=rfl;omega⟩
theorem inc_bd (l:List Int) (i k:Nat) (hi:i < l.length) (h:∀ j,0<=l.getD j 0 /\ l.getD j 0<=k):∀ j,0<=(inc l i).getD j 0 /\ (inc l i).getD j 0<=(k+1:Nat):=fun j => by
 rw [inc_getD l i j hi]
 have h1:=h i
 have h2:=h j
 split <;> omega
theorem cn1_ok {c:Cn} {k n:Nat} {x:Wd} (h:CnOk c k) (hx:om1 n x):CnOk (cn1 c x) (k+1):=by
 have hl:=cn1_len c x
 have h1:=h.la
 have h2:=h.lb
 have h3:=h.bn
 cases x with
 | lit b =>
  have:=b.toNat_lt
  exact ⟨by omega,by omega,inc_bd _ _ _ (by omega) h.ba,fun i => by have:=h.bb i;simp only [cn1];omega,by simp only [cn1];omega⟩
 | mat c' b =>
  obtain ⟨k1,k2,k3,k4,k5⟩:=hx
  have a1:=ltr_any c' (by omega) k1
  have a2:=stp_le b k3 k4
  have a3:=agn_le (ltr c' - 257) (by omega)
  have a4:=bck_le (stp b) a2
  exact ⟨by omega,by omega,inc_bd _ _ _ (by omega) h.ba,inc_bd _ _ _ (by omega) h.bb,by simp only [cn1];omega⟩
theorem fold_ok (ws:List Wd) (c:Cn) (k n:Nat) (h:CnOk c k) (hx:okm ws n):CnOk (ws.foldl cn1 c) (k+ws.length):=by
 induction ws generalizing c k n with
 | nil => exact h
 | cons x r ih =>
  rw [List.foldl_cons,List.length_cons,show k+(r.length+1)=k+1+r.length by omega]
  exact ih _ _ _ (cn1_ok h hx.1) hx.2
theorem cnw_ok (ws:List Wd) (n:Nat) (h:okm ws n):CnOk (cnw ws) ws.length:=by
 have:=fold_ok ws cn0 0 n cn0_ok h
 rw [Nat.zero_add] at this
 exact this
theorem cn1_mono {c:Cn} {k n:Nat} {x:Wd} (h:CnOk c k) (hx:om1 n x) (j:Nat):c.a.getD j 0<=(cn1 c x).a.getD j 0 /\ c.b.getD j 0<=(cn1 c x).b.getD j 0:=by
 have h1:=h.la
 have h2:=h.lb
 cases x with
 | lit b => have:=b.toNat_lt;exact ⟨inc_mono _ _ _ (by omega),Int.le_refl _⟩
 | mat c' b =>
  obtain ⟨k1,k2,k3,k4,k5⟩:=hx
  have a1:=ltr_any c' (by omega) k1
  have a2:=stp_le b k3 k4
  exact ⟨inc_mono _ _ _ (by omega),inc_mono _ _ _ (by omega)⟩
theorem fold_mono (ws:List Wd) (c:Cn) (k n:Nat) (h:CnOk c k) (hx:okm ws n) (j:Nat):c.a.getD j 0<=(ws.foldl cn1 c).a.getD j 0 /\ c.b.getD j 0<=(ws.foldl cn1 c).b.getD j 0:=by
 induction ws generalizing c k n with
 | nil => exact ⟨Int.le_refl _,Int.le_refl _⟩
 | cons x r ih =>
  have h1:=cn1_mono h hx.1 j
  have h2:=ih _ _ _ (cn1_ok h hx.1) hx.2
  rw [List.foldl_cons]
  exact ⟨Int.le_trans h1.1 h2.1,Int.le_trans h1.2 h2.2⟩
theorem fold_okw (ws:List Wd) (c:Cn) (k n m:Nat) (h:CnOk c k) (hx:okm ws n) (hm:n<=m) (za zb:List Int) (ha:∀ i,i < 286->0 < (inc (ws.foldl cn1 c).a 256).getD i 0->0 < za.getD i 0) (hb:∀ i,i < 30->0 < (ws.foldl cn1 c).b.getD i 0->0 < zb.getD i 0):okw za zb ws m:=by
 induction ws generalizing c k n m with
 | nil =>
  have h1:=h.la
  exact ha 256 (by omega) (inc_pos _ _ (by simp only [List.foldl_nil];omega) fun j => (h.ba j).1)
 | cons x r ih =>
  rw [List.foldl_cons] at ha hb
  have hk:=cn1_ok h hx.1
  refine ⟨?_,ih _ _ _ _ hk hx.2 (by omega) ha hb⟩
  have hfin:=fold_ok r _ _ _ hk hx.2
  have hmo:=fold_mono r _ _ _ hk hx.2
  have hge:∀ j,(cn1 c x).a.getD j 0<=(inc (r.foldl cn1 (cn1 c x)).a 256).getD j 0:=fun j => Int.le_trans (hmo j).1 (inc_mono _ _ _ (by have:=hfin.la;omega))
  have h1:=h.la
  have h2:=h.lb
  cases x with
  | lit b =>
   have hb':=b.toNat_lt
   have hp:=inc_pos c.a b.toNat (by omega) fun j => (h.ba j).1
   have g1:(inc c.a b.toNat).getD b.toNat 0<=_:=hge b.toNat
   exact ha _ (by omega) (by omega)
  | mat c' b =>
   obtain ⟨k1,k2,k3,k4,k5⟩:=hx.1
   have a1:=ltr_any c' (by omega) k1
   have a2:=stp_le b k3 k4
   have hp:=inc_pos c.a (ltr c') (by omega) fun j => (h.ba j).1
   have hq:=inc_pos c.b (stp b) (by omega) fun j => (h.bb j).1
   have g1:(inc c.a (ltr c')).getD (ltr c') 0<=_:=hge (ltr c')
   have g2:(inc c.b (stp b)).getD (stp b) 0<=_:=(hmo (stp b)).2
   exact ⟨k1,k2,k3,k4,by omega,ha _ (by omega) (by omega),hb _ (by omega) (by omega)⟩
theorem cnw_okw (ws:List Wd) (n m:Nat) (hx:okm ws n) (hm:n<=m) (za zb:List Int) (ha:∀ i,i < 286->0 < (inc (cnw ws).a 256).getD i 0->0 < za.getD i 0) (hb:∀ i,i < 30->0 < (cnw ws).b.getD i 0->0 < zb.getD i 0):okw za zb ws m:=fold_okw ws cn0 0 n m cn0_ok hx hm za zb ha hb
theorem zfa_pos:∀ i:Nat,i < 288->0 < zfa.getD i 0:=by decide +kernel
theorem zfb_pos:∀ i:Nat,i < 32->0 < zfb.getD i 0:=by decide +kernel
theorem fix_okw (ws:List Wd) (n m:Nat) (hx:okm ws n) (hm:n<=m):okw zfa zfb ws m :=
 cnw_okw ws n m hx hm zfa zfb (fun i hi _ => zfa_pos i (by omega)) (fun i hi _ => zfb_pos i (by omega))
/-! the best codes of counts,and the head that tells them -/
structure Best (cs:List Int) (m:Nat) (l:List Int):Prop where
 len:l.length=cs.length
 bd:∀ i,0<=l.getD i 0 /\ l.getD i 0<=m
 pos:∀ i,0 < l.getD i 0 ↔ 0 < cs.getD i 0
 whole:(∃ i j,i ≠ j /\ 0 < cs.getD i 0 /\ 0 < cs.getD j 0)->wt l=32768
 alone:(∀ i j,0 < cs.getD i 0->0 < cs.getD j 0->i=j) -> ∀ i,l.getD i 0<=1
theorem none_of {l:List Int} (h:∀ i,l.getD i 0<=0):wt l=0 /\ (∀ n,plc l n=0) /\ ∀ n,cnt l n=0:=by
 induction l with
 | nil =>
  refine ⟨rfl,fun n => ?_,fun n => by simp [cnt]⟩
  have:=plc_le [] n
  simpa using this
 | cons z l ih =>
  have h0:=h 0
  rw [List.getD_cons_zero] at h0
  obtain ⟨i1,i2,i3⟩:=ih fun i => by have:=h (i+1);rwa [List.getD_cons_succ] at this
  refine ⟨?_,fun n => ?_,fun n => ?_⟩
  ·rw [wt,i1,if_neg (by omega)]
  ·rw [plc_cons,i2,if_neg (by omega)]
  ·rw [cnt_cons,i3,if_neg (by omega)]
theorem one_of {l:List Int} (i:Nat) (h1:l.getD i 0=1) (h:∀ j,j ≠ i->l.getD j 0<=0):wt l=16384 /\ plc l 15=1 /\ cnt l 1=1:=by
 induction l generalizing i with
 | nil => simp at h1
 | cons z l ih =>
  cases i with
  | zero =>
   rw [List.getD_cons_zero] at h1
   obtain ⟨i1,i2,i3⟩:=none_of (l:=l) fun j => by have:=h (j+1) (by omega);rwa [List.getD_cons_succ] at this
   subst h1
   refine ⟨?_,?_,?_⟩
   ·rw [wt,i1,if_pos (by omega)];rfl
   ·rw [plc_cons,i2,if_pos (by omega)]
   ·rw [cnt_cons,i3,if_pos (by omega)]
  | succ i =>
   rw [List.getD_cons_succ] at h1
   have h0:=h 0 (by omega)
   rw [List.getD_cons_zero] at h0
   obtain ⟨i1,i2,i3⟩:=ih i h1 fun j hj => by have:=h (j+1) (by omega);rwa [List.getD_cons_succ] at this
   refine ⟨?_,?_,?_⟩
   ·rw [wt,i1,if_neg (by omega)]
   ·rw [plc_cons,i2,if_neg (by omega)]
   ·rw [cnt_cons,i3,if_neg (by omega)]
def Cutz (l:List Int) (k:Nat):Prop:=∀ j,k<=j->l.getD j 0=0
theorem cut_getD {l:List Int} {k:Nat} (h:Cutz l k) (i:Nat):(l.take k).getD i 0=l.getD i 0:=by
 rw [List.getD_eq_getElem?_getD,List.getElem?_take]
 split
 ·rw [<- List.getD_eq_getElem?_getD]
 ·rename_i hi;rw [h i (by omega)];rfl
theorem cut_wt {l:List Int} {k:Nat} (h:Cutz l k):wt (l.take k)=wt l:=by
 have e:wt l=wt (l.take k ++ l.drop k):=by rw [List.take_append_drop]
 have hn:=none_of (l:=l.drop k) fun i => by rw [drop_getD,h _ (by omega)];omega
 rw [e,wt_append,hn.1]
 rfl
theorem best_may {cs:List Int} {m:Nat} {l:List Int} (h:Best cs m l) {k:Nat} (hk:Cutz l k):mayS (l.take k)=true /\ ((∃ i,0 < cs.getD i 0)->mayL (l.take k)=true) /\ wt (l.take k)<=32768:=by
 by_cases h2:∃ i j,i ≠ j /\ 0 < cs.getD i 0 /\ 0 < cs.getD j 0
 ·have hw:=h.whole h2
  have e:mayL (l.take k)=true:=by unfold mayL;rw [cut_wt hk,hw];rfl
  exact ⟨by unfold mayS;rw [e];rfl,fun _ => e,by rw [cut_wt hk,hw];omega⟩
 ·have h1:∀ i j,0 < cs.getD i 0->0 < cs.getD j 0->i=j:=fun i j hi hj => Classical.byContradiction fun hne => h2 ⟨i,j,hne,hi,hj⟩
  have ha:=h.alone h1
  by_cases hp:∃ i,0 < cs.getD i 0
  ·obtain ⟨i,hi⟩:=hp
   have hli:=(h.pos i).2 hi
   have hai:=ha i
   obtain ⟨o1,o2,o3⟩:=one_of (l:=l.take k) i (by rw [cut_getD hk];omega) (fun j hj => by
     rw [cut_getD hk]
     apply Classical.byContradiction
     intro hc
     exact hj (h1 j i ((h.pos j).1 (by omega)) hi))
   have e:mayL (l.take k)=true:=by
    unfold mayL
    rw [o2,o3]
    simp
   exact ⟨by unfold mayS;rw [e];rfl,fun _ => e,by omega⟩
  ·obtain ⟨o1,o2,o3⟩:=none_of (l:=l.take k) fun i => by
    rw [cut_getD hk]
    apply Classical.byContradiction
    intro hc
    exact hp ⟨i,(h.pos i).1 (by omega)⟩
   refine ⟨?_,fun h => absurd h hp,by omega⟩
   unfold mayS
   rw [o2]
   simp
def rcn (q:List (Nat × Nat)):List Int:=q.foldl (fun c r => inc c r.1) (List.replicate 19 0)
theorem rcn_snoc (q:List (Nat × Nat)) (r:Nat × Nat):rcn (q ++ [r])=inc (rcn q) r.1:=by simp [rcn]
theorem rfold_len (q:List (Nat × Nat)) (c:List Int):(q.foldl (fun c r => inc c r.1) c).length=c.length:=by
 induction q generalizing c with
 | nil => rfl
 | cons r q ih => rw [List.foldl_cons,ih,inc_length]
theorem rcn_len (q:List (Nat × Nat)):(rcn q).length=19:=by unfold rcn;rw [rfold_len];exact List.length_replicate
theorem rfold_mono (q:List (Nat × Nat)) (c:List Int) (hc:c.length=19) (hq:∀ r,r ∈ q->r.1<=18) (j:Nat):c.getD j 0<=(q.foldl (fun c r => inc c r.1) c).getD j 0:=by
 induction q generalizing c with
 | nil => exact Int.le_refl _
 | cons r q ih =>
  rw [List.foldl_cons]
  have h1:=hq r (by simp)
  exact Int.le_trans (inc_mono c r.1 j (by omega)) (ih _ (by rw [inc_length];exact hc) fun r hr => hq r (by simp [hr]))
theorem rfold_bd (q:List (Nat × Nat)) (c:List Int) (k:Nat) (hc:c.length=19) (hq:∀ r,r ∈ q->r.1<=18) (h:∀ j,0<=c.getD j 0 /\ c.getD j 0<=k):∀ j,0<=(q.foldl (fun c r => inc c r.1) c).getD j 0 /\ (q.foldl (fun c r => inc c r.1) c).getD j 0<=(k+q.length:Nat):=by
 induction q generalizing c k with
 | nil => exact h
 | cons r q ih =>
  have h1:=hq r (by simp)
  rw [List.foldl_cons,List.length_cons,show k+(q.length+1)=k+1+q.length by omega]
  exact ih _ (k+1) (by rw [inc_length];exact hc) (fun r hr => hq r (by simp [hr])) (inc_bd c r.1 k (by omega) h)
theorem rcn_bd (q:List (Nat × Nat)) (hq:∀ r,r ∈ q->r.1<=18) (j:Nat):0<=(rcn q).getD j 0 /\ (rcn q).getD j 0<=(q.length:Nat):=by
 have:=rfold_bd q (List.replicate 19 0) 0 List.length_replicate hq (fun j => by rw [rep_getD];omega) j
 rw [Nat.zero_add] at this
 exact this
theorem rfold_pos (q:List (Nat × Nat)) (c:List Int) (hc:c.length=19) (h0:∀ j,0<=c.getD j 0) (hq:∀ r,r ∈ q->r.1<=18):∀ r,r ∈ q->0 < (q.foldl (fun c r => inc c r.1) c).getD r.1 0:=by
 induction q generalizing c with
 | nil => intro r hr;simp at hr
 | cons x q ih =>
  intro r hr
  have h1:=hq x (by simp)
  have hc':(inc c x.1).length=19:=by rw [inc_length];exact hc
  rw [List.foldl_cons]
  rcases List.mem_cons.1 hr with rfl | hr
  ·have hp:=inc_pos c r.1 (by omega) h0
   have:=rfold_mono q _ hc' (fun r hr => hq r (by simp [hr])) r.1
   omega
  ·exact ih _ hc' (fun j => Int.le_trans (h0 j) (inc_mono c x.1 j (by omega))) (fun r hr => hq r (by simp [hr])) r hr
theorem rcn_pos (q:List (Nat × Nat)) (hq:∀ r,r ∈ q->r.1<=18):∀ r,r ∈ q->0 < (rcn q).getD r.1 0 :=
 rfold_pos q _ List.length_replicate (fun j => by rw [rep_getD];omega) hq
def row (zc:List Int):List Int:=(List.range 19).map fun j => zc.getD (ord.getD j 0) 0
theorem row_len (zc:List Int):(row zc).length=19:=by simp [row]
theorem row_getD (zc:List Int) (j:Nat) (hj:j < 19):(row zc).getD j 0=zc.getD (ord.getD j 0) 0:=by simp [row,hj]
def runs (zs:List Int):List (Nat × Nat):=rnF zs zs.length 0
theorem app_getD (a b:List Int) (i:Nat):(a ++ b).getD i 0=if i < a.length then a.getD i 0 else b.getD (i - a.length) 0:=by
 rw [List.getD_eq_getElem?_getD,List.getElem?_append]
 split <;> rw [<- List.getD_eq_getElem?_getD]
theorem own_head {ca cb la lb zc:List Int} {ka kb k:Nat} (hA:Best ca 15 la) (hB:Best cb 15 lb) (na:ca.length=286) (nb:cb.length=30) (he:0 < ca.getD 256 0)
  (a1:257<=ka) (a2:ka<=286) (a3:Cutz la ka) (b1:1<=kb) (b2:kb<=30) (b3:Cutz lb kb)
  (hC:Best (rcn (runs (la.take ka ++ lb.take kb))) 7 zc) (k1:4<=k) (k2:k<=19) (k3:Cutz (row zc) k) :
  Head (la.take ka) (lb.take kb) zc k (runs (la.take ka ++ lb.take kb)) /\ Good (la.take ka) /\ Good (lb.take kb):=by
 have lna:=hA.len
 have lnb:=hB.len
 have lta:(la.take ka).length=ka:=by rw [List.length_take];omega
 have ltb:(lb.take kb).length=kb:=by rw [List.length_take];omega
 obtain ⟨zs,hzs⟩:∃ zs,zs=la.take ka ++ lb.take kb:=⟨_,rfl⟩
 rw [<- hzs] at hC ⊢
 have lz:zs.length=ka+kb:=by rw [hzs,List.length_append];omega
 have hz:∀ i,0<=zs.getD i 0 /\ zs.getD i 0<=15:=fun i => by
  rw [hzs,app_getD]
  have:=hA.bd i
  have:=hB.bd (i - (la.take ka).length)
  split
  ·rw [cut_getD a3];omega
  ·rw [cut_getD b3];omega
 have hend:0 < (la.take ka).getD 256 0:=by rw [cut_getD a3];exact (hA.pos 256).2 he
 have hz256:0 < zs.getD 256 0:=by rw [hzs,app_getD,if_pos (by omega)];exact hend
 have hq:∀ r,r ∈ runs zs->r.1<=18:=rnF_le zs hz _ _
 have hpos:=rcn_pos (runs zs) hq
 obtain ⟨r1,r2,m1,m2,hne⟩:=rnF_two zs hz (by omega) hz256 zs.length (Nat.le_refl _)
 have hwt:wt zc=32768:=hC.whole ⟨r1.1,r2.1,hne,hpos r1 m1,hpos r2 m2⟩
 have mA:=best_may hA a3
 have mB:=best_may hB b3
 have hsay:=rnF_says zs hz zs.length 0 (by omega) (by omega)
 have hok:=rnF_ok zs zc hz zs.length 0 (by omega) (fun r hr => (hC.pos r.1).2 (hpos r hr))
 rw [List.take_zero] at hsay hok
 refine ⟨⟨by omega,by omega,by rw [hC.len,rcn_len],fun i => hC.bd i,hwt,⟨k1,k2⟩,fun j j1 j2 => ?_,hok,?_,hend,mA.2.1 ⟨256,he⟩,mB.1⟩,⟨any_nl fun i => ?_,mA.2.2⟩,⟨any_nl fun i => ?_,mB.2.2⟩⟩
 ·have:=k3 j j1
  rwa [row_getD zc j j2] at this
 ·rw [<- hzs];exact hsay
 ·rw [cut_getD a3];exact hA.bd i
 ·rw [cut_getD b3];exact hB.bd i
def rbits (zc:List Int):List (Nat × Nat)->Nat
 | [] => 0
 | r :: q => (zc.getD r.1 0).toNat+(tms r.1).2+rbits zc q
theorem rps_pl (zc:List Int) (q:List (Nat × Nat)):pl (rps zc q)=rbits zc q:=by
 induction q with
 | nil => rfl
 | cons r q ih => rw [rps,pl_append,ih,rbits];simp only [pl,syp];omega
theorem hps_pl (za zb zc:List Int) (k:Nat) (q:List (Nat × Nat)):pl (hps za zb zc k q)=14+3*k+rbits zc q:=by
 unfold hps
 rw [pl_append,pl_append,ops_pl,rps_pl]
 simp only [pl]
end Go.Proofs.YthdmjmnkhlpnnabGreatDoor
namespace Go.Proofs.YthdmjmnkhlpnnabGreatDoor
open Go.RowKit
def cerr (zs:List Int):Int:=if 320 < zs.length ∨ zs.any nl=true then 9 else if 32768 < wt zs then 3 else 0
def cout (zs:List Int):List Int:=if 320 < zs.length ∨ zs.any nl=true then [] else if 32768 < wt zs then [] else bts zs
theorem cout_le (zs:List Int):(cout zs).length<=320:=by
 unfold cout
 split
 ·simp
 ·split
  ·simp
  ·rename_i h _;rw [bts_length];omega
def New (w w':World) (v:Value) (l:List Int):Prop:=(v = .slice none 0 0 /\ l=[]) ∨ ∃ g,v = .slice (some ⟨g,0,none⟩) l.length l.length /\ w.heap.size<=g /\ Row w' g l
end Go.Proofs.YthdmjmnkhlpnnabGreatDoor
namespace Go.Proofs.YthdmjmnkhlpnnabGreatDoor
open Go.RowKit
theorem owns_drewN {w:World} {base:Nat} {e:TypeId} {size:Nat} {v:Value} {n:Nat} {xs:List Value} (h:w.ownsRow base e size v n xs) (q:Nat):(w.drewN q).ownsRow base e size v n xs:=by
 induction q generalizing w with
 | zero => exact h
 | succ q ih => exact ih h.drew
theorem below_drewN' {B:Nat} {a w:World} (h:Below B a w) (q:Nat):Below B a (w.drewN q) :=
 below_drewN h q
theorem owns_seg {w:World} {base:Nat} {v:Value} {n:Nat} {l:List Int} (h:w.ownsRow base 3 1 v n (l.map (Value.int .i64))):∃ ao c,v = .slice ao l.length c /\ Seg w ao l:=by
 have hl:l.length=n:=by have:=h.1;simpa using this
 rcases h.2 with ⟨rfl,rfl⟩ | ⟨g,cap,cur,rfl,hb,hg,hnc,hcm,hcs,htake⟩
 ·exact ⟨none,0,by rw [hl],fun h0 => by omega⟩
 ·refine ⟨some ⟨g,0,none⟩,cap,by rw [hl],fun _ => ⟨g,0,rfl,fun j hj => ?_⟩⟩
  rw [Nat.zero_add,cell_of_row w g j cur 3 (0,0) hg]
  have h1:(cur.toList.take (n*1))[j]? = some (Value.int .i64 (l.getD j 0)):=by rw [htake];simp [hj]
  rw [List.getElem?_take] at h1
  split at h1
  ·simpa using h1
  ·cases h1
set_option maxHeartbeats 400000 in
theorem refcodes_number (ao:Option Addr) (c:Nat) (zs:List Int) (w:World) (hs:Seg w ao zs) (hm:zs.length<=maxLen) (hbad:320 < zs.length ∨ zs.any nl=true) :
  Calls Tryz.prog 52 #[.slice ao zs.length c] w fun e w' => e = .returned (.tuple #[.slice none 0 0,.int .i64 9]) /\ w=w':=by
 have hf:(!zs.any nl && decide (zs.length<=320))=false:=by
  rcases hbad with h | h
  ·have:¬ zs.length<=320:=by omega
   simp [this]
  ·simp [h]
 clear hbad
 go_enter Tryz.func52,Tryz.ntmps52
 go_wp2_with (go_at_call 94;refine (right_any _ _ _ _ hs hm).mono ?_;rintro e w' ⟨rfl,rfl⟩)
 go_ret2
 exact ⟨rfl,rfl⟩
set_option maxHeartbeats 400000 in
theorem refcodes_code (ao:Option Addr) (c:Nat) (zs:List Int) (w:World) (hs:Seg w ao zs) (hm:zs.length<=320) (hok:zs.any nl=false) (hw:32768 < wt zs) :
  Calls Tryz.prog 52 #[.slice ao zs.length c] w fun e w' => e = .returned (.tuple #[.slice none 0 0,.int .i64 3]) /\ w=w':=by
 have hf:(!zs.any nl && decide (zs.length<=320))=true:=by simp [hok,hm]
 go_enter Tryz.func52,Tryz.ntmps52
 go_wp2_with (first | (go_at_call 94;refine (right_any _ _ _ _ hs (by unfold maxLen;omega)).mono ?_;rintro e w' ⟨rfl,rfl⟩) | (go_at_call 95;refine (refweight_any _ _ _ _ hs hm hok).mono ?_;rintro e w' ⟨rfl,rfl⟩) | (go_at_call 96;refine (power_any _ _ (by omega) (by omega)).mono ?_;rintro e w' ⟨rfl,rfl⟩))
 go_ret2
 exact ⟨rfl,rfl⟩
theorem step_app {zs:List Int} {w wr w1:World} {v v':Value} {i:Nat} {r:Int} {o:Obj} (hlt:i < zs.length) (hr:(bt zs i:Int)=r)
  (hown:wr.ownsRow w.heap.size 3 1 v i (((bts zs).take i).map (Value.int .i64))) (hB:Below w.heap.size w wr)
  (hown':w1.ownsRow w.heap.size 3 1 v' (i+1) (((bts zs).map (Value.int .i64)).take i ++ [Value.int .i64 r])) (hg:(wr.alloc o).grownBy w1 v.ownBlock) :
  w1.ownsRow w.heap.size 3 1 v' (i+1) (((bts zs).take (i+1)).map (Value.int .i64)) /\ Below w.heap.size w w1:=by
 refine ⟨?_,(hB.alloc hB.size o).grown hg (by have:=hB.size;simp;omega) (fun k hk => (hown.lt k hk).1)⟩
 rw [take_snocI (bts zs) i (by rw [bts_length];exact hlt),bts_getD zs i hlt,hr]
 rw [List.map_append,List.map_take]
 exact hown'
set_option maxRecDepth 20000 in
set_option maxHeartbeats 1000000 in
theorem refcodes_ok (ao:Option Addr) (c:Nat) (zs:List Int) (w:World) (hs:Seg w ao zs) (hm:zs.length<=320) (hok:zs.any nl=false) (hw:wt zs<=32768) :
  Calls Tryz.prog 52 #[.slice ao zs.length c] w fun e w' => ∃ ao' c',e = .returned (.tuple #[.slice ao' (bts zs).length c',.int .i64 0]) /\ Seg w' ao' (bts zs) /\ Below w.heap.size w w':=by
 obtain ⟨i0,hi,hz0,hz1,hz2⟩:=info_parts info3
 have hf:(!zs.any nl && decide (zs.length<=320))=true:=by simp [hok,hm]
 have HOK:Hid (zs.any nl=false):=hok
 go_enter Tryz.func52,Tryz.ntmps52
 go_wp2_with (first | (go_at_call 94;refine (right_any _ _ _ _ hs (by unfold maxLen;omega)).mono ?_;rintro e w' ⟨rfl,rfl⟩) | (go_at_call 95;refine (refweight_any _ _ _ _ hs hm hok).mono ?_;rintro e w' ⟨rfl,rfl⟩) | (go_at_call 96;refine (power_any _ _ (by omega) (by omega)).mono ?_;rintro e w' ⟨rfl,rfl⟩))
 clear hok hf hw
 go_loopw [5,6] (fun v i wr => ∃ k:Nat,k<=zs.length /\ i = .int .i64 k /\ wr.ownsRow w.heap.size 3 1 v k (((bts zs).take k).map (Value.int .i64)) /\ Below w.heap.size w wr) (fun _ i _ => zs.length - (intOf i).toNat)
 case atStart => exact ⟨0,by omega,rfl,World.ownsRow_nil _ _ _ _,Below.refl _ _⟩
 case round =>
  obtain ⟨i,hik,rfl,hown,hB⟩:=hrel
  by_cases hlt:i < zs.length
  ·obtain ⟨b,off,rfl,hc⟩:=hs (by omega)
   obtain ⟨x,hx⟩:∃ z,z=zs.getD i 0:=⟨_,rfl⟩
   have hcx:w.cell? ⟨b,off+i,none⟩=some (.int .i64 x):=by rw [hx];exact hc i hlt
   have hbl:b < w.heap.size:=World.block_lt_of_cell? w _ hcx
   have hxb:=ok_getD HOK.out i
   rw [<- hx] at hxb
   have HX:Hid (x=zs.getD i 0):=hx
   have HC:Hid (∀ j,j < zs.length->w.cell? ⟨b,off+j,none⟩=some (.int .i64 (zs.getD j 0))):=hc
   have HCX:Hid (w.cell? ⟨b,off+i,none⟩=some (.int .i64 x)):=hcx
   clear hx hs hc hcx
   go_wp2
   go_loopw [7,8] (fun t j wq => ∃ k q:Nat,k<=zs.length /\ j = .int .i64 k /\ Hid (q=if 0 < x then ahd zs i k else 0) /\ q<=16384*k /\ t = .int .i64 q /\ wq.ownsRow w.heap.size 3 1 u5 i (((bts zs).take i).map (Value.int .i64)) /\ Below w.heap.size w wq) (fun _ j _ => zs.length - (intOf j).toNat)
   case atStart => exact ⟨0,0,by omega,rfl,by show _=_;simp [ahd],by omega,rfl,hown,hB⟩
   case round =>
    clear hown hB
    obtain ⟨k,q,hk,rfl,HQ,hq,rfl,hown,hB⟩:=hrel
    have hcx:wr.cell? ⟨b,off+i,none⟩=some (.int .i64 x):=(hB.cell (p:=⟨b,off+i,none⟩) hbl).trans HCX.out
    by_cases hgo:k < zs.length /\ 0 < x
    ·obtain ⟨hkl,hx0⟩:=hgo
     obtain ⟨y,hy⟩:∃ z,z=zs.getD k 0:=⟨_,rfl⟩
     have hcy:wr.cell? ⟨b,off+k,none⟩=some (.int .i64 y):=(hB.cell (p:=⟨b,off+k,none⟩) hbl).trans (by rw [hy];exact HC.out k hkl)
     have hyb:=ok_getD HOK.out k
     rw [<- hy] at hyb
     have HY:Hid (y=zs.getD k 0):=hy
     clear hy
     have HAW:Hid (aw zs i k=if 0 < y /\ (y < x ∨ y=x /\ k < i) then 2 ^ (15 - y.toNat) else 0):=by show _=_;unfold aw;rw [<- HX.out,<- HY.out]
     by_cases hyes:0 < y /\ (y < x ∨ y=x /\ k < i)
     ·have hy0:0 < y:=hyes.1
      have dy0:decide (0 < y)=true:=by simpa using hy0
      obtain ⟨p,hpw⟩:∃ p:Nat,p=2 ^ (15 - y.toNat):=⟨_,rfl⟩
      have hb1:(2:Nat) ^ (15 - y.toNat)<=2 ^ 14:=Nat.pow_le_pow_right (by omega) (by omega)
      rw [<- hpw] at hb1
      have HP2:Hid (((2 ^ (15 - y).toNat:Nat):Int)=(p:Int)):=by show _=_;rw [hpw,show (15 - y).toNat=15 - y.toNat by omega]
      have HQ':Hid (q+p=if 0 < x then ahd zs i (k+1) else 0):=by show _=_;rw [if_pos hx0,ahd,HAW.out,if_pos hyes,HQ.out,if_pos hx0,hpw]
      clear hpw
      by_cases hyx:y < x
      ·have dyx:decide (y < x)=true:=by simpa using hyx
       clear hyes
       go_wp2
       go_quiet (fail)
       go_wp2_with (go_at_call 96;refine (power_any _ _ (by omega) (by omega)).mono ?_;rintro e w' ⟨rfl,rfl⟩;rw [HP2.out])
       go_roundw
       case rel => exact ⟨k+1,q+p,by omega,by go_num,HQ',by omega,by go_num,hown,below_drewN' hB _⟩
       case measure => simp [intOf];omega
      ·have dyx:decide (y < x)=false:=by simpa using hyx
       have e1:(y == x)=true:=by simp;omega
       have e2:decide ((k:Int) < (i:Int))=true:=by simp;omega
       have hki:k < i:=by omega
       clear hyes
       go_wp2
       go_quiet (fail)
       go_wp2_with (go_at_call 96;refine (power_any _ _ (by omega) (by omega)).mono ?_;rintro e w' ⟨rfl,rfl⟩;rw [HP2.out])
       go_roundw
       case rel => exact ⟨k+1,q+p,by omega,by go_num,HQ',by omega,by go_num,hown,below_drewN' hB _⟩
       case measure => simp [intOf];omega
     ·have HQ':Hid (q=if 0 < x then ahd zs i (k+1) else 0):=by show _=_;rw [if_pos hx0,ahd,HAW.out,if_neg hyes,HQ.out,if_pos hx0];rfl
      by_cases hy0:0 < y
      ·have dy0:decide (0 < y)=true:=by simpa using hy0
       have hyx:¬ y < x:=by omega
       have dyx:decide (y < x)=false:=by simpa using hyx
       by_cases hex:y=x
       ·have e1:(y == x)=true:=by simp;omega
        have e2:decide ((k:Int) < (i:Int))=false:=by simp;omega
        have hki:¬ k < i:=by omega
        have HEX:Hid (y=x):=hex
        clear hyes hex
        go_wp2
        go_quiet (fail)
        go_wp2
        go_roundw
        case rel => exact ⟨k+1,q,by omega,by go_num,HQ',by omega,by go_num,hown,below_drewN' hB _⟩
        case measure => simp [intOf];omega
       ·have e1:(y == x)=false:=by simpa using hex
        clear hyes hex
        go_wp2
        go_quiet (fail)
        go_wp2
        go_roundw
        case rel => exact ⟨k+1,q,by omega,by go_num,HQ',by omega,by go_num,hown,below_drewN' hB _⟩
        case measure => simp [intOf];omega
      ·have dy0:decide (0 < y)=false:=by simpa using hy0
       clear hyes
       go_wp2
       go_quiet (fail)
       go_wp2
       go_roundw
       case rel => exact ⟨k+1,q,by omega,by go_num,HQ',by omega,by go_num,hown,below_drewN' hB _⟩
       case measure => simp [intOf];omega
    ·have HQ':Hid (q / 2 ^ (15 - x.toNat)=bt zs i):=by
      show _=_
      by_cases hx0:0 < x
      ·have hkk:k=zs.length:=by omega
       rw [HQ.out,if_pos hx0,hkk,HX.out]
       exact ahd_bt zs i hlt (by rw [<- HX.out];exact hx0) (by rw [<- HX.out];omega)
      ·rw [HQ.out,if_neg hx0]
       unfold bt
       rw [<- HX.out,if_neg hx0]
       simp
     obtain ⟨p,hpw⟩:∃ p:Nat,p=2 ^ (15 - x.toNat):=⟨_,rfl⟩
     have hb0:1<=p:=by rw [hpw];exact Nat.one_le_two_pow
     have hb1:(2:Nat) ^ (15 - x.toNat)<=2 ^ 15:=Nat.pow_le_pow_right (by omega) (by omega)
     rw [<- hpw] at hb1
     have HP2:Hid (((2 ^ (15 - x).toNat:Nat):Int)=(p:Int)):=by show _=_;rw [hpw,show (15 - x).toNat=15 - x.toNat by omega]
     have HBT:Hid (((bt zs i:Nat):Int)=(q:Int) / (p:Int)):=by
      show _=_
      rw [<- HQ'.out,<- hpw]
      exact Int.natCast_ediv q p
     have hqp:0<=(q:Int) / (p:Int) /\ (q:Int) / (p:Int)<=(q:Int):=⟨Int.ediv_nonneg (by omega) (by omega),Int.ediv_le_self _ (by omega)⟩
     clear hpw
     by_cases hkl:k < zs.length
     ·have hx0:¬ 0 < x:=fun h => hgo ⟨hkl,h⟩
      clear hgo
      go_wp2_with (first | (go_at_call 96;refine (power_any _ _ (by omega) (by omega)).mono ?_;rintro e w' ⟨rfl,rfl⟩;rw [HP2.out]) | (at_builtin;refine wpList_append_own _ rfl (.tmp 76) (.tmp 85) 23 rfl w.heap.size 3 i0 (.int .i64 0) 1 8 Tryz.underlying23 hi hz0 hz1 hz2 rfl (by decide) _ _ _ rfl (hown.alloc _) ⟨wr.heap.size,0,none⟩ 1 1 [.int .i64 ((q:Int) / (p:Int))] rfl rfl (cell_one_new _ _ _) ?c2a ?c3a ?c4a ?c5a ?_))
      case c2a => intro u hu;simp at hu;subst hu;rfl
      case c3a => unfold maxLen;omega
      case c4a => omega
      case c5a => have:=hB.size;simp;omega
      intro v' w1 hown' hgrow hnn
      clear hnn
      have R:=hid (step_app hlt HBT.out hown hB hown' hgrow)
      clear hown hown' hgrow hqp hb0 hb1 hcx hq
      go_wp2
      go_roundw
      case rel => exact ⟨i+1,by omega,by go_num,R.out.1,R.out.2⟩
      case measure => simp [intOf];omega
     ·clear hgo
      go_wp2_with (first | (go_at_call 96;refine (power_any _ _ (by omega) (by omega)).mono ?_;rintro e w' ⟨rfl,rfl⟩;rw [HP2.out]) | (at_builtin;refine wpList_append_own _ rfl (.tmp 76) (.tmp 85) 23 rfl w.heap.size 3 i0 (.int .i64 0) 1 8 Tryz.underlying23 hi hz0 hz1 hz2 rfl (by decide) _ _ _ rfl (hown.alloc _) ⟨wr.heap.size,0,none⟩ 1 1 [.int .i64 ((q:Int) / (p:Int))] rfl rfl (cell_one_new _ _ _) ?c2b ?c3b ?c4b ?c5b ?_))
      case c2b => intro u hu;simp at hu;subst hu;rfl
      case c3b => unfold maxLen;omega
      case c4b => omega
      case c5b => have:=hB.size;simp;omega
      intro v' w1 hown' hgrow hnn
      clear hnn
      have R:=hid (step_app hlt HBT.out hown hB hown' hgrow)
      clear hown hown' hgrow hqp hb0 hb1 hcx hq
      go_wp2
      go_roundw
      case rel => exact ⟨i+1,by omega,by go_num,R.out.1,R.out.2⟩
      case measure => simp [intOf];omega
  ·go_wp2
   go_ret2
   have e1:(bts zs).take i=bts zs:=List.take_of_length_le (by rw [bts_length];omega)
   rw [e1] at hown
   obtain ⟨ao',c',rfl,hseg⟩:=owns_seg hown
   exact ⟨ao',c',rfl,hseg,hB⟩
end Go.Proofs.YthdmjmnkhlpnnabGreatDoor
namespace Go.Proofs.YthdmjmnkhlpnnabGreatDoor
open Go.RowKit
theorem cell_in' {w:World} {b o:Nat} {v:Value} (h:w.cell? ⟨b,o,none⟩=some v):b < w.heap.size:=by
 rcases Nat.lt_or_ge b w.heap.size with h2 | h2
 ·exact h2
 ·have h3:w.heap[b]? = none:=Array.getElem?_eq_none h2
  simp [World.cell?,h3] at h
theorem conv3 (u:World) (X:ByteArray) (h:X.size=3):∃ cap u3,(convert 9 72 (.string X)).run Tryz.prog u = .ok (.slice (some ⟨u.heap.size,0,none⟩) 3 cap) u3 /\ (∀ j,j < 3->u3.cell? ⟨u.heap.size,j,none⟩=some (.int .u8 (byt X j))) /\ Below u.heap.size u u3:=by
 have hr:=run_bytes_of_string (P:=Tryz.prog) u 9 72 5 X Tryz.underlying9 Tryz.underlying72 Tryz.underlying5
 rw [h] at hr
 refine ⟨_,_,hr,fun j hj => ?_,((Below.refl u.heap.size u).drew).alloc (Nat.le_refl _) _⟩
 rw [cell_of_row _ u.heap.size j _ _ _ (heap_alloc_new u.drew _)]
 unfold bytesRow byt
 have hx:X.data.size=3:=h
 rw [Array.getElem?_append_left (by simpa using by omega),Array.getElem?_map,List.getD_eq_getElem?_getD,Array.getElem?_toList,Array.getElem?_eq_getElem (by omega)]
 rfl
theorem byt_ext3 (T:ByteArray) (a n j:Nat) (h:a+n<=T.size) (hj:j < n):byt (T.extract a (a+n)) j=byt T (a+j):=by
 unfold byt
 have e:(T.extract a (a+n)).data=T.data.extract a (a+n):=ByteArray.data_extract
 have hs:T.data.size=T.size:=rfl
 rw [e,List.getD_eq_getElem?_getD,List.getD_eq_getElem?_getD,Array.getElem?_toList,Array.getElem?_toList,Array.getElem?_extract_of_lt (by omega),Array.getElem?_eq_getElem (by omega)]
theorem arr3 (u:World) (b cap:Nat):(Instr.arrayAt 136 (.slice (some ⟨b,0,none⟩) 3 cap)).run Tryz.prog u = .ok (.pointer (some ⟨b,0,none⟩)) u:=by kernel_rfl
set_option maxRecDepth 20000 in
theorem keyAt_any (T:ByteArray) (a:Nat) (w:World) (h:a+3<=T.size) (hT:T.size<=1000000) :
  Calls Tryz.prog 155 #[.string T,.int .i64 a] w fun e w' => e = .returned (.agg #[.int .u8 (byt T a),.int .u8 (byt T (a+1)),.int .u8 (byt T (a+2))]) /\ Below w.heap.size w w':=by
 have HB0:=hid ((Below.refl w.heap.size w).alloc (Nat.le_refl _) (.cells #[.int .u8 0,.int .u8 0,.int .u8 0] 136))
 have HX0:Hid ((w.alloc (.cells #[.int .u8 0,.int .u8 0,.int .u8 0] 136)).heap[w.heap.size]? = some (.cells #[.int .u8 0,.int .u8 0,.int .u8 0] 136 (0,0))):=heap_alloc_new w _
 obtain ⟨cap,u3,hr,hc,hb⟩:=conv3 (w.alloc (.cells #[.int .u8 0,.int .u8 0,.int .u8 0] 136)) (T.extract a (a+3)) (by rw [ByteArray.size_extract];omega)
 rw [World.size_alloc] at hr hc
 have x0:=hc 0 (by omega)
 have x1:=hc 1 (by omega)
 have x2:=hc 2 (by omega)
 rw [byt_ext3 T a 3 _ h (by omega)] at x0 x1 x2
 rw [Nat.add_zero] at x0
 have hx:=(hb.block w.heap.size (by simp)).trans HX0.out
 have c0:u3.cell? ⟨w.heap.size,0,none⟩=some (.int .u8 0):=by rw [cell_of_row _ _ 0 _ _ _ hx];rfl
 have c1:u3.cell? ⟨w.heap.size,1,none⟩=some (.int .u8 0):=by rw [cell_of_row _ _ 1 _ _ _ hx];rfl
 have c2:u3.cell? ⟨w.heap.size,2,none⟩=some (.int .u8 0):=by rw [cell_of_row _ _ 2 _ _ _ hx];rfl
 have f0:u3.frozen? ⟨w.heap.size,0,none⟩=false:=by simp [World.frozen?,hx]
 have f1:u3.frozen? ⟨w.heap.size,1,none⟩=false:=by simp [World.frozen?,hx]
 have f2:u3.frozen? ⟨w.heap.size,2,none⟩=false:=by simp [World.frozen?,hx]
 have HB3:=hid (HB0.out.trans (hb.mono HB0.out.size))
 have ha:=arr3 u3 (w.heap.size+1) cap
 clear hb hc hx
 go_enter Tryz.func155,Tryz.ntmps155
 go_wp2
 refine bodyPost_ret (v:=.agg #[.int .u8 (byt T a),.int .u8 (byt T (a+1)),.int .u8 (byt T (a+2))]) (by simp [results,Tryz.results155,go_sem,c0,c1,c2]) rfl ⟨rfl,?_⟩
 exact ((HB3.out.setCell (p:=⟨w.heap.size,0,none⟩) (Nat.le_refl _) _).setCell (p:=⟨w.heap.size,1,none⟩) (Nat.le_refl _) _).setCell (p:=⟨w.heap.size,2,none⟩) (Nat.le_refl _) _
theorem idx_str (T:ByteArray) (i:Nat) (h:i < T.size) (u:World):(Instr.index 9 (.string T) (.int .i64 (i:Int))).run Tryz.prog u = .ok (.int .u8 (byt T i)) u:=by
 have hu:Tryz.prog.underlying 9=some .string:=Tryz.underlying9
 have h1:(0:Int)<=(i:Int) /\ (i:Int) < (T.size:Int):=by omega
 rw [run_index_string _ _ _ _ _ hu]
 simp [h1,h,byt_get]
set_option maxRecDepth 20000 in
set_option maxHeartbeats 1600000 in
theorem same_any (w:World) (S:Nat) (T:ByteArray) (x0 x1 x3 x4:Value) (a b best most:Nat) (hS:w.heap[S]? = some (.cells #[x0,x1,.string T,x3,x4] 119 (0,0))) (hb:b<=a) (hm:a+most<=T.size) (hbe:best < most) (hT:T.size<=1000000) :
  Calls Tryz.prog 156 #[.pointer (some ⟨S,0,none⟩),.int .i64 a,.int .i64 b,.int .i64 best,.int .i64 most] w fun e w' => ∃ r:Nat,e = .returned (.int .i64 r) /\ r<=most /\ (∀ j,j < r->byt T (a+j)=byt T (a - b+j)) /\ ((∀ j,j < most->byt T (a+j)=byt T (a - b+j))->r=most) /\ (r=0 ∨ r=most ∨ byt T (a+r) ≠ byt T (a - b+r)) /\ Below w.heap.size w w':=by
 have HX:=hid hS
 have c2:w.cell? ⟨S,2,none⟩=some (.string T):=by rw [cell_of_row _ _ 2 _ _ _ hS];rfl
 obtain ⟨p1,hp1⟩:∃ p,p=a+best:=⟨_,rfl⟩
 obtain ⟨p2,hp2⟩:∃ p,p=a - b+best:=⟨_,rfl⟩
 have e1:(a:Int)+(best:Int)=(p1:Int):=by omega
 have e2:(a:Int) - (b:Int)+(best:Int)=(p2:Int):=by omega
 have i1:=fun u => idx_str T p1 (by omega) u
 have i2:=fun u => idx_str T p2 (by omega) u
 obtain ⟨y1,hy1⟩:∃ y,y=byt T p1:=⟨_,rfl⟩
 obtain ⟨y2,hy2⟩:∃ y,y=byt T p2:=⟨_,rfl⟩
 rw [<- hy1] at i1
 rw [<- hy2] at i2
 have w1:IntKind.i64.wrap (p1:Int)=(p1:Int):=by rw [IntKind.wrap_i64];omega
 have w2:IntKind.i64.wrap ((a:Int) - (b:Int))=(a:Int) - (b:Int):=by rw [IntKind.wrap_i64];omega
 have w3:IntKind.i64.wrap (p2:Int)=(p2:Int):=by rw [IntKind.wrap_i64];omega
 have HY:=hid (And.intro hy1 (And.intro hy2 (And.intro hp1 hp2)))
 clear hS hy1 hy2 hp1 hp2
 by_cases hne:y1=y2
 ·subst hne
  have d:((y1:Int) != (y1:Int))=false:=by simp
  go_enter Tryz.func156,Tryz.ntmps156
  go_upto_region 1 with fail
  go_quiet (fail)
  go_wp2
  clear i1 i2 e1 e2 w1 w2 w3 d
  go_loopw [11] (fun i wr => ∃ k:Nat,k<=most /\ i = .int .i64 k /\ Hid (∀ j,j < k->byt T (a+j)=byt T (a - b+j)) /\ Hid (Below w.heap.size w wr)) (fun i _ => most - (intOf i).toNat)
  case atStart => exact ⟨0,by omega,rfl,fun j hj => by omega,below_drewN' (Below.refl _ _) _⟩
  case round =>
   obtain ⟨k,hk,rfl,HE,HB⟩:=hrel
   have x2:wr.cell? ⟨S,2,none⟩=some (.string T):=(HB.out.cell (p:=⟨S,2,none⟩) (cell_in' c2)).trans c2
   by_cases hlt:k < most
   ·obtain ⟨q1,hq1⟩:∃ p,p=a+k:=⟨_,rfl⟩
    obtain ⟨q2,hq2⟩:∃ p,p=a - b+k:=⟨_,rfl⟩
    have e1:(a:Int)+(k:Int)=(q1:Int):=by omega
    have e2:(a:Int) - (b:Int)+(k:Int)=(q2:Int):=by omega
    have i1:=fun u => idx_str T q1 (by omega) u
    have i2:=fun u => idx_str T q2 (by omega) u
    obtain ⟨z1,hz1⟩:∃ y,y=byt T q1:=⟨_,rfl⟩
    obtain ⟨z2,hz2⟩:∃ y,y=byt T q2:=⟨_,rfl⟩
    rw [<- hz1] at i1
    rw [<- hz2] at i2
    have w1:IntKind.i64.wrap (q1:Int)=(q1:Int):=by rw [IntKind.wrap_i64];omega
    have w2:IntKind.i64.wrap ((a:Int) - (b:Int))=(a:Int) - (b:Int):=by rw [IntKind.wrap_i64];omega
    have w3:IntKind.i64.wrap (q2:Int)=(q2:Int):=by rw [IntKind.wrap_i64];omega
    have d1:decide ((k:Int) < (most:Int))=true:=by simp;omega
    have HQ:=hid (And.intro hz1 (And.intro hz2 (And.intro hq1 hq2)))
    clear hz1 hz2 hq1 hq2
    by_cases he:z1=z2
    ·subst he
     go_upto_region 4 with fail
     go_quiet (fail)
     go_wp2
     refine ⟨⟨k+1,by omega,int_eq (by omega),fun j hj => ?_,below_drewN' HB.out _⟩,by simp [intOf];omega⟩
     by_cases e:j=k
     ·obtain ⟨r1,r2,r3,r4⟩:=HQ.out
      rw [e,<- r3,<- r4,<- r1,<- r2]
     ·exact HE.out j (by omega)
    ·have d2:((z1:Int) == (z2:Int))=false:=by simp;omega
     go_upto_region 4 with fail
     go_quiet (fail)
     go_wp2
     go_ret
     have hne':byt T (a+k) ≠ byt T (a - b+k):=by
      obtain ⟨r1,r2,r3,r4⟩:=HQ.out
      rw [<- r3,<- r4,<- r1,<- r2]
      exact he
     exact ⟨k,rfl,hk,HE.out,fun hall => absurd (hall k hlt) hne',.inr (.inr hne'),below_drewN' HB.out _⟩
   ·obtain rfl:k=most:=by omega
    have d1:decide ((k:Int) < (k:Int))=false:=by simp
    go_upto_region 4 with fail
    go_quiet (fail)
    go_wp2
    go_ret
    exact ⟨k,rfl,hk,HE.out,fun _ => rfl,.inr (.inl rfl),below_drewN' HB.out _⟩
 ·have d:((y1:Int) != (y2:Int))=true:=by simp;omega
  go_enter Tryz.func156,Tryz.ntmps156
  go_upto_region 1 with fail
  go_quiet (fail)
  go_wp2
  go_ret
  refine ⟨0,rfl,by omega,fun j hj => by omega,fun hall => ?_,.inl rfl,below_drewN' (Below.refl _ _) _⟩
  obtain ⟨r1,r2,r3,r4⟩:=HY.out
  have:=hall best hbe
  rw [<- r3,<- r4,<- r1,<- r2] at this
  exact absurd this hne
end Go.Proofs.YthdmjmnkhlpnnabGreatDoor
namespace Go.Proofs.YthdmjmnkhlpnnabGreatDoor
open Go.RowKit Go.Maps
theorem keyRow:(136:TypeId) < Tryz.prog.types.size:=of_decide_eq_true (by kernel_rfl)
set_option maxRecDepth 100000 in
theorem keyWide:(match Tryz.prog.underlying 136 with | some (.array _ _) | some (.struct _) => true | _ => false)=true:=by rw [Tryz.underlying136]
set_option maxRecDepth 100000 in
theorem keyLaw:Keyed Tryz.prog 136:=Keyed.of_law (deep_law_laid (m:=2) (by kernel_rfl) (by omega) keyRow (by kernel_rfl) keyWide)
def k3 (a b c:Nat):Value:=.agg #[.int .u8 a,.int .u8 b,.int .u8 c]
theorem kl_u8 (d n:Nat) (h:n < 256):Tryz.prog.keyLits (d+1) 5 [.int .u8 n]=some [.int .u8 n]:=by
 unfold Program.keyLits
 rw [Tryz.underlying5]
 have:(Lit.int .u8 (n:Int)).wf=true:=by
  have h1:IntKind.u8.min=0:=rfl
  have h2:IntKind.u8.max=255:=rfl
  simp [Lit.wf,h1,h2]
  omega
 simp [this]
theorem kl_three (d a b c:Nat) (ha:a < 256) (hb:b < 256) (hc:c < 256):Tryz.prog.keyLits (d+2) 136 [.int .u8 a,.int .u8 b,.int .u8 c]=some [.int .u8 a,.int .u8 b,.int .u8 c]:=by
 have c3:Tryz.prog.cellsOf 136=3:=by kernel_rfl
 have c1:Tryz.prog.cellsOf 5=1:=by kernel_rfl
 unfold Program.keyLits
 rw [Tryz.underlying136]
 simp only [c3,c1,List.length_cons,List.length_nil]
 rw [if_pos trivial]
 have e:List.range 3=[0,1,2]:=by decide
 simp only [e,List.mapM_cons,List.mapM_nil,Nat.mul_one,List.drop_zero,List.take_succ_cons,List.take_zero,List.drop_succ_cons]
 rw [kl_u8 d a ha,kl_u8 d b hb,kl_u8 d c hc]
 rfl
theorem key_of (a b c:Nat) (ha:a < 256) (hb:b < 256) (hc:c < 256):∃ kl,keyOf Tryz.prog 136 (k3 a b c)=some kl:=by
 have e1:Tryz.prog.keyType 136=true:=by kernel_rfl
 have e2:(k3 a b c).formed Tryz.prog 136=true:=by unfold k3;simp [Value.formed,Tryz.underlying136,show Tryz.prog.cellsOf 136=3 by kernel_rfl]
 have e4:∃ d,Tryz.prog.types.size+1=d+2:=⟨Tryz.prog.types.size - 1,by have:1<=Tryz.prog.types.size:=of_decide_eq_true (by kernel_rfl);omega⟩
 obtain ⟨d,hd⟩:=e4
 have hl:=kl_three d a b c ha hb hc
 rw [<- hd] at hl
 refine ⟨.string (keyBytes [.int .u8 a,.int .u8 b,.int .u8 c]),?_⟩
 unfold keyOf
 rw [Tryz.underlying136]
 simp only [e1,e2,Bool.and_self,if_true]
 show Option.map _ (Tryz.prog.keyLits (Tryz.prog.types.size+1) 136 [.int .u8 a,.int .u8 b,.int .u8 c])=_
 rw [hl]
 rfl
theorem zeroInt (w:World):(zeroValue 3).run Tryz.prog w = .ok (.int .i64 0) w:=by kernel_rfl
end Go.Proofs.YthdmjmnkhlpnnabGreatDoor
