import Derived.Test.YtclgkofcooibfaaGreatDoorOwnP1
import Derived.Lib.ItoaNum
set_option maxHeartbeats 6400000
set_option maxRecDepth 100000
namespace Go.Proofs.YtclgkofcooibfaaGreatDoor
open Go.Lib
def pad:Nat->Nat->List UInt8
 | 0,_=>[]
 | k+1,r=>pad k (r/10)++[UInt8.ofNat (48+r % 10)]
theorem afx{u:Nat}(h:¬u<10):decDigits u=decDigits (u/10)++[UInt8.ofNat (48+u % 10)]:=by rw[decDigits,dif_neg h]
theorem ahV(k:Nat):∀(q r:Nat),0<q->r<10^k->decDigits (q*10^k+r)=decDigits q++pad k r:=by
 induction k with
 | zero=>intro q r hq hr;simp at hr;subst hr;simp[pad]
 | succ k ih=>
   intro q r hq hr;have hp:1<=10^k:=Nat.one_le_pow _ _ qd;have e:q*10^(k+1)=q*10^k*10:=by rw[Nat.pow_succ,Nat.mul_assoc]
   have hq':=Nat.mul_le_mul hq hp;have h1:(q*10^(k+1)+r)/10=q*10^k+r/10:=by rw[e];omega
   have h2:(q*10^(k+1)+r) % 10=r % 10:=by rw[e];omega
   rw[afx (by rw[e];omega),h1,h2,ih q (r/10) hq (by rw[Nat.pow_succ] at hr;omega),pad,List.append_assoc]
theorem aer(k:Nat):pad k 0=List.replicate k 48:=by
 induction k with
 | zero=>rfl
 | succ k ih=>
   have:pad (k+1) 0=pad k 0++[48]:=rfl;rw[this,ih,List.replicate_succ']
theorem aiB{k r:Nat}(hk:1<=k)(h:r<10^k):nDigits r<=k:=by
 induction k generalizing r with
 | zero=>omega
 | succ k ih=>
   by_cases h1:r<10
   . rw[nDigits_small h1];omega
   . rw[nDigits_big h1]
     have h2:r/10<10^k:=by rw[Nat.pow_succ] at h;omega
     have h3:1<=k:=by
      rcases Nat.eq_zero_or_pos k with h | h
      . subst h;simp at h2;omega
      . omega
     have:=ih h3 h2;omega
theorem ah4(k:Nat):∀r,1<=k->r<10^k->pad k r=List.replicate (k-nDigits r) 48++decDigits r:=by
 induction k with
 | zero=>intro r h;omega
 | succ k ih=>
   intro r _ hr
   by_cases h1:r<10
   . rw[nDigits_small h1,decDigits_one h1]
     have e:pad (k+1) r=pad k (r/10)++[UInt8.ofNat (48+r % 10)]:=rfl;rw[e,show r/10=0 by omega,aer,show k+1-1=k by omega,show r % 10=r by omega]
   . have h2:r/10<10^k:=by rw[Nat.pow_succ] at hr;omega
     have h3:1<=k:=by
      rcases Nat.eq_zero_or_pos k with h | h
      . subst h;simp at h2;omega
      . omega
     have e:pad (k+1) r=pad k (r/10)++[UInt8.ofNat (48+r % 10)]:=rfl;rw[e,ih _ h3 h2,nDigits_big h1,afx h1,show k+1-(nDigits (r/10)+1)=k-nDigits (r/10) by omega,List.append_assoc]
theorem afw{q r:Nat}(hq:0<q)(hr:r<1000000000):decDigits (q*1000000000+r)=decDigits q++(List.replicate (9-nDigits r) 48++decDigits r):=by
 have h:=hr;have:=ahV 9 q r hq h;rw[ah4 9 r om h] at this;exact this
def sI(v k:Nat):Nat:=v/10^k % 10
theorem abB(v k:Nat):sI v k<10:=Nat.mod_lt _ om
def fM(v c k:Nat):Nat:=(2*(v % 10^k)+c)/10^k
theorem af2(v c:Nat):fM v c 0=c:=by simp[fM,Nat.mod_one]
theorem ahX{v c:Nat}(hc:c<=1)(k:Nat):fM v c k<=1:=by
 have hp:1<=10^k:=Nat.one_le_pow _ _ qd;have h:v % 10^k<10^k:=Nat.mod_lt _ hp;have:fM v c k<2:=(Nat.div_lt_iff_lt_mul hp).2 om;omega
theorem ahv{P d m c x:Nat}(hP:1<=P)(hx:2*m+c=x*P+(2*m+c) % P):(2*(m+P*d)+c)/P=2*d+x:=by
 have h1:2*(m+P*d)+c=(2*m+c) % P+P*(2*d+x):=by
  rw[Nat.mul_add P,Nat.mul_comm P x];have:2*(P*d)=P*(2*d):=by rw[<-Nat.mul_assoc,Nat.mul_comm 2 P,Nat.mul_assoc]
  omega
 rw[h1,Nat.add_mul_div_left _ _ om,Nat.div_eq_of_lt (Nat.mod_lt _ hP)];omega
theorem ac7(v c k:Nat):(2*(v % 10^(k+1))+c)/10^k=2*sI v k+fM v c k:=by
 have hp:1<=10^k:=Nat.one_le_pow _ _ qd;rw[Nat.mod_pow_succ];refine ahv hp ?_
 show _=(2*(v % 10^k)+c)/10^k*10^k+_
 rw[Nat.mul_comm ((2*(v % 10^k)+c)/10^k)];exact (Nat.div_add_mod _ _).symm
theorem af3(v c k:Nat):fM v c (k+1)=(2*sI v k+fM v c k)/10:=by
 rw[<-ac7,Nat.div_div_eq_div_mul,<-Nat.pow_succ];rfl
theorem agB(v c k:Nat):sI (2*v+c) k=(2*sI v k+fM v c k) % 10:=by
 have hp:1<=10^k:=Nat.one_le_pow _ _ qd;rw[<-ac7];unfold sI
 have e:2*v+c=2*(v % 10^(k+1))+c+10^k*(10*(2*(v/10^(k+1)))):=by
  have h:=Nat.div_add_mod v (10^(k+1));rw[<-Nat.mul_assoc,<-Nat.pow_succ,<-Nat.mul_assoc,Nat.mul_comm (10^(k+1)) 2,Nat.mul_assoc];omega
 rw[e,Nat.add_mul_div_left _ _ om,Nat.add_mul_mod_self_left]
theorem ac6{v n:Nat}(c:Nat)(h:v<10^n):fM v c n=(2*v+c)/10^n:=by unfold fM;rw[Nat.mod_eq_of_lt h]
theorem acW{v:Nat}(h:0<v):10^(nDigits v-1)<=v:=by
 induction v using Nat.strongRecOn with
 | _ v ih=>
   by_cases h1:v<10
   . rw[nDigits_small h1];simp;omega
   . rw[nDigits_big h1]
     have:=ih (v/10) om om;have hn:=nDigits_pos (v/10);rw[show nDigits (v/10)+1-1=(nDigits (v/10)-1)+1 by omega,Nat.pow_succ];omega
theorem ags{v c:Nat}(hc:c<=1)(h:0<fM v c (nDigits v)):nDigits (2*v+c)=nDigits v+1/\sI (2*v+c) (nDigits v)=fM v c (nDigits v):=by
 have hl:=lt_pow_nDigits v;have h1:=ahX hc (v:=v) (nDigits v);have hp:1<=10^nDigits v:=Nat.one_le_pow _ _ qd;rw[ac6 c hl] at h h1⊢
 have h2:10^nDigits v<=2*v+c:=by
  rcases Nat.lt_or_ge (2*v+c) (10^nDigits v) with h3 | h3
  . rw[Nat.div_eq_of_lt h3] at h;omega
  . exact h3
 refine⟨nDigits_unique _ _ h2 (by rw[Nat.pow_succ];omega), ?_⟩;unfold sI;exact Nat.mod_eq_of_lt om
theorem agr{v c:Nat}(hc:c<=1)(h:fM v c (nDigits v)=0):nDigits (2*v+c)=nDigits v:=by
 have hl:=lt_pow_nDigits v;have hp:1<=10^nDigits v:=Nat.one_le_pow _ _ qd;rw[ac6 c hl] at h
 have h2:2*v+c<10^nDigits v:=by
  rcases Nat.lt_or_ge (2*v+c) (10^nDigits v) with h3 | h3
  . exact h3
  . have:=Nat.div_pos h3 hp;omega
 by_cases h0:v=0
 . subst h0
   rw[nDigits_small om,nDigits_small om]
 . have h3:=acW (v:=v) om
   have h4:=nDigits_pos v;have:=nDigits_unique (nDigits v-1) (2*v+c) om (by rw[show nDigits v-1+1=nDigits v by omega];exact h2);omega
theorem uC{v k:Nat}(h:v<2^k):nDigits v<=k+1:=by
 induction k generalizing v with
 | zero=>rw[nDigits_small (by simp at h;omega)];omega
 | succ k ih=>
   by_cases h1:v<10
   . rw[nDigits_small h1];omega
   . rw[nDigits_big h1]
     have:=ih (v:=v/10) (by rw[Nat.pow_succ] at h;omega);omega
theorem ahW(v:Nat):decDigits v=(List.range (nDigits v)).map fun t=>UInt8.ofNat (48+sI v (nDigits v-1-t)):=decDigits_eq v
end Go.Proofs.YtclgkofcooibfaaGreatDoor
