
set_option maxHeartbeats 6400000
set_option maxRecDepth 100000
namespace Go.Proofs.YtclgkofcooibfaaGreatDoor
theorem om {p:Prop}(h:p:=by omega):p:=h
theorem qd {p:Prop}(h:p:=by decide):p:=h
theorem qz {p:Prop}(h:p:=by simp):p:=h
def bv(B:Nat->Bool):Nat->Nat
 | 0=>0
 | n+1=>bv B n+(B n).toNat*2^n
def lv(X:Nat->Nat):Nat->Nat
 | 0=>0
 | n+1=>lv X n+X n*2^(32*n)
def ce(P:Nat->Bool):Nat->Nat
 | 0=>0
 | n+1=>if P n then n+1 else ce P n
theorem co(P:Nat->Bool)(n:Nat):ce P n<=n:=by
 induction n with
 | zero=>exact Nat.le_refl _
 | succ n ih=>unfold ce;split<;>omega
theorem cI(P:Nat->Bool)(n:Nat)(h:0<ce P n):P (ce P n-1)=true:=by
 induction n with
 | zero=>simp[ce] at h
 | succ n ih=>
   unfold ce at h⊢
   by_cases hp:P n=true
   . simp[hp]
   . simp[hp] at h⊢;exact ih h
theorem rS(P:Nat->Bool)(n j:Nat)(h:ce P n<=j)(hj:j<n):P j=false:=by
 induction n with
 | zero=>omega
 | succ n ih=>
   unfold ce at h
   by_cases hp:P n=true
   . simp[hp] at h;omega
   . simp[hp] at h
     by_cases e:j=n
     . subst e;simpa using hp
     . exact ih h om
theorem ahr{P Q:Nat->Bool}{n:Nat}(h:∀j,j<n->P j=Q j):ce P n=ce Q n:=by
 induction n with
 | zero=>rfl
 | succ n ih=>simp only[ce];rw[h n om,ih (fun j hj=>h j om)]
theorem fW{P Q:Nat->Bool}{n:Nat}(h:∀j,j<n->P j=Q j):bv P n=bv Q n:=by
 induction n with
 | zero=>rfl
 | succ n ih=>simp only[bv];rw[h n om,ih (fun j hj=>h j om)]
theorem dD{P Q:Nat->Nat}{n:Nat}(h:∀j,j<n->P j=Q j):lv P n=lv Q n:=by
 induction n with
 | zero=>rfl
 | succ n ih=>simp only[lv];rw[h n om,ih (fun j hj=>h j om)]
theorem tR(B:Nat->Bool)(n m:Nat)(h:n<=m)(hz:∀j,n<=j->j<m->B j=false):bv B m=bv B n:=by
 induction m with
 | zero=>have:n=0:=om
         subst this;rfl
 | succ m ih=>
   by_cases e:n=m+1
   . subst e;rfl
   . simp only[bv];rw[hz m om om,ih om (fun j h1 h2=>hz j h1 om)];simp
theorem nT(X:Nat->Nat)(n m:Nat)(h:n<=m)(hz:∀j,n<=j->j<m->X j=0):lv X m=lv X n:=by
 induction m with
 | zero=>have:n=0:=om
         subst this;rfl
 | succ m ih=>
   by_cases e:n=m+1
   . subst e;rfl
   . simp only[lv];rw[hz m om om,ih om (fun j h1 h2=>hz j h1 om)];simp
theorem jZ(B:Nat->Bool)(n:Nat):bv B (ce B n)=bv B n:=
 (tR B _ _ (co B n) (fun j h1 h2=>rS B n j h1 h2)).symm
def nz(X:Nat->Nat):Nat->Bool:=fun j=>X j != 0
theorem dP(X:Nat->Nat)(n:Nat):lv X (ce (nz X) n)=lv X n:=
 (nT X _ _ (co _ n) (fun j h1 h2=>by have:=rS _ n j h1 h2;simpa [nz] using this)).symm
theorem sJ(B:Nat->Bool)(n:Nat):bv B n<2^n:=by
 induction n with
 | zero=>simp[bv]
 | succ n ih=>
   simp only[bv,Nat.pow_succ];cases B n<;>simp<;>omega
theorem agt{x p:Nat}(h:x<4294967296):x*p<=4294967295*p:=Nat.mul_le_mul_right _ om
theorem jq(n:Nat):2^(32*(n+1))=4294967296*2^(32*n):=by
 rw[Nat.mul_add,Nat.pow_add];omega
theorem fy(X:Nat->Nat)(n:Nat)(h:∀j,j<n->X j<4294967296):lv X n<2^(32*n):=by
 induction n with
 | zero=>simp[lv]
 | succ n ih=>
   have h1:=ih (fun j hj=>h j om);have h2:=agt (p:=2^(32*n)) (h n om);rw[jq];simp only[lv];omega
theorem jU(X:Nat->Nat)(n:Nat)(h:0<n)(ht:X (n-1)≠0):2^(32*(n-1))<=lv X n:=by
 obtain⟨m,rfl⟩:∃m,n=m+1:=⟨n-1,om⟩;simp only[lv,Nat.add_sub_cancel] at*;have:1*2^(32*m)<=X m*2^(32*m):=Nat.mul_le_mul_right _ om;omega
theorem aeE{X Y:Nat->Nat}{n m:Nat}(hY:∀j,j<m->Y j<4294967296)(pX:0<n->X (n-1)≠0)(h:lv X n=lv Y m):n<=m:=by
 by_cases h0:n=0
 . omega
 . have h1:=jU X n om (pX om)
   have h2:=fy Y m hY
   by_cases hlt:n<=m
   . exact hlt
   . have:2^(32*m)<=2^(32*(n-1)):=Nat.pow_le_pow_right om om
     omega
theorem agu{X Y:Nat->Nat}{n:Nat}(hX:∀j,j<n->X j<4294967296)(hY:∀j,j<n->Y j<4294967296)(h:lv X n=lv Y n):∀j,j<n->X j=Y j:=by
 induction n with
 | zero=>intro j hj;omega
 | succ n ih=>
   have a1:=fy X n (fun j hj=>hX j om);have a2:=fy Y n (fun j hj=>hY j om);simp only[lv] at h;have hp:0<2^(32*n):=Nat.pow_pos om
   have e1:(lv X n+X n*2^(32*n))/2^(32*n)=X n:=by
    rw[Nat.add_mul_div_right _ _ hp,Nat.div_eq_of_lt a1];omega
   have e2:(lv Y n+Y n*2^(32*n))/2^(32*n)=Y n:=by
    rw[Nat.add_mul_div_right _ _ hp,Nat.div_eq_of_lt a2];omega
   have e:X n=Y n:=by rw[<-e1,<-e2,h]
   rw[e] at h;have hl:lv X n=lv Y n:=om
   intro j hj
   by_cases c:j=n
   . subst c;exact e
   . exact ih (fun j hj=>hX j om) (fun j hj=>hY j om) hl j om
theorem aeF{X Y:Nat->Nat}{n m:Nat}(hX:∀j,j<n->X j<4294967296)(hY:∀j,j<m->Y j<4294967296)
 (pX:0<n->X (n-1)≠0)(pY:0<m->Y (m-1)≠0)(h:lv X n=lv Y m):n=m/\∀j,j<n->X j=Y j:=by
 have e:=Nat.le_antisymm (aeE hY pX h) (aeE hX pY h.symm);subst e;exact⟨rfl,agu hX hY h⟩
def bitsOf(X:Nat->Nat)(j:Nat):Bool:=(X (j/32)/2^(j % 32)) % 2==1
theorem qM(n:Nat):(n % 2==1).toNat=n % 2:=by
 rcases Nat.mod_two_eq_zero_or_one n with h | h<;>simp[h]
theorem agF(X:Nat->Nat)(i k:Nat)(hk:k<=32)(hX:∀j,j<i->X j<4294967296):
 bv (bitsOf X) (32*i+k)=lv X i+(X i % 2^k)*2^(32*i):=by
 induction i generalizing k with
 | zero=>
   induction k with
   | zero=>simp[bv,lv,Nat.mod_one]
   | succ k ihk=>
     have:=ihk om;simp only[Nat.mul_zero,Nat.zero_add] at this⊢;simp only[bv,lv,Nat.zero_add,Nat.pow_zero,Nat.mul_one] at this⊢;rw[this,bitsOf,qM,show k/32=0 by omega,show k % 32=k by omega];rw[Nat.pow_succ,Nat.mod_mul,Nat.mul_comm]
 | succ i ih=>
   induction k with
   | zero=>
     have h0:=ih 32 om (fun j hj=>hX j om);have h1:=Nat.mod_eq_of_lt (by have:=hX i om;omega);rw[h1] at h0;have e:32*(i+1)+0=32*i+32:=om
     rw[e,h0];simp[lv,Nat.mod_one]
   | succ k ihk=>
     have h0:=ihk om;have e:32*(i+1)+(k+1)=(32*(i+1)+k)+1:=om
     rw[e]
     show bv (bitsOf X) (32*(i+1)+k)+_=_
     rw[h0,bitsOf,qM];have d1:(32*(i+1)+k)/32=i+1:=om
     have d2:(32*(i+1)+k) % 32=k:=om
     rw[d1,d2]
     have e3:X (i+1)/2^k % 2*2^(32*(i+1)+k)=2^k*(X (i+1)/2^k % 2)*2^(32*(i+1)):=by
      generalize 32*(i+1)=u;rw[Nat.pow_add,Nat.mul_comm (2^u) (2^k),<-Nat.mul_assoc,Nat.mul_comm (X (i+1)/2^k % 2) (2^k)]
     rw[e3,Nat.add_assoc,<-Nat.add_mul,Nat.pow_succ,Nat.mod_mul]
theorem aa4(X:Nat->Nat)(n:Nat)(hX:∀j,j<n->X j<4294967296):bv (bitsOf X) (32*n)=lv X n:=by
 have:=agF X n 0 om hX
 simpa [Nat.mod_one] using this
def ext(A:Nat->Bool)(n:Nat):Nat->Bool:=fun j=>decide (j<n)&&A j
theorem vi(A:Nat->Bool)(n m:Nat)(h:n<=m):bv (ext A n) m=bv A n:=by
 rw[tR (ext A n) n m h (fun j h1 _=>by simp[ext];omega)];exact fW (fun j hj=>by simp[ext,hj])
theorem aaw(x y c:Bool):((x != y) != c).toNat+2*((x&&y) ||(x&&c) ||(y&&c)).toNat=x.toNat+y.toNat+c.toNat:=by
 cases x<;>cases y<;>cases c<;>rfl
def nC(O0 O:Nat->Bool)(A:Nat->Bool)(n j i:Nat)(c:Bool):Prop:=
 (∀k,j+i<=k->O k=O0 k)/\bv O (j+i)+c.toNat*2^(j+i)=bv O0 (j+i)+2^j*bv (ext A n) i
theorem y8(O:Nat->Bool)(A:Nat->Bool)(n j:Nat):nC O O A n j 0 false:=⟨fun _ _=>rfl,by simp[bv]⟩
theorem aa7{O0 O:Nat->Bool}{A:Nat->Bool}{n j i:Nat}{c x y:Bool}(h:nC O0 O A n j i c)(hx:O (j+i)=x)(hy:ext A n i=y):
 nC O0 (fun k=>if k=j+i then ((x != y) != c) else O k) A n j (i+1) ((x&&y) ||(x&&c) ||(y&&c)):=by
 obtain⟨h1,h2⟩:=h;refine⟨fun k hk=> ?_, ?_⟩
 . show (if k=j+i then _ else O k)=_
   rw[if_neg om];exact h1 k om
 . have e:j+(i+1)=(j+i)+1:=om
   have hc:bv (fun k=>if k=j+i then ((x != y) != c) else O k) (j+i)=bv O (j+i):=fW (fun k hk=>by rw[if_neg om]);have hx0:O0 (j+i)=x:=by rw[<-hx];exact (h1 (j+i) (Nat.le_refl _)).symm
   rw[e];simp only[bv,hc,if_true,hx0,hy];have hf:=aaw x y c;generalize ((x != y) != c).toNat=s at hf⊢;generalize ((x&&y) ||(x&&c) ||(y&&c)).toNat=d at hf⊢;rw[Nat.pow_succ,Nat.mul_add,<-Nat.mul_assoc (2^j),Nat.mul_comm (2^j) y.toNat,Nat.mul_assoc y.toNat,<-Nat.pow_add];have e2:s*2^(j+i)+d*(2^(j+i)*2)=(s+2*d)*2^(j+i):=by rw[Nat.add_mul,Nat.mul_comm (2^(j+i)) 2,<-Nat.mul_assoc,Nat.mul_comm d 2]
   rw[Nat.add_assoc,e2,hf,Nat.add_mul,Nat.add_mul];omega
theorem abN{O0 O:Nat->Bool}{A B:Nat->Bool}{n m j i:Nat}{c:Bool}(h:nC O0 O A n j i c)(hi:j+i=n+m)(hj:j<m)(h0:bv O0 (n+m)=bv A n*bv B j)(hb:B j=true):
 bv O (n+m)=bv A n*bv B (j+1):=by
 obtain⟨_,h2⟩:=h;rw[hi,vi A n i om,h0] at h2
 have e:bv A n*bv B (j+1)=bv A n*bv B j+2^j*bv A n:=by
  simp only[bv,hb,Bool.toNat_true,Nat.one_mul];rw[Nat.mul_add,Nat.mul_comm (2^j)]
 rw[<-e] at h2
 have hl:bv A n*bv B (j+1)<2^(n+m):=by
  have a1:=sJ A n;have a2:=sJ B (j+1);have a3:=Nat.mul_lt_mul_of_lt_of_le a1 (Nat.le_of_lt a2) (Nat.pow_pos om);rw[<-Nat.pow_add] at a3;exact Nat.lt_of_lt_of_le a3 (Nat.pow_le_pow_right om om)
 cases c
 . simpa using h2
 . simp at h2;omega
theorem ae4{O:Nat->Bool}{A B:Nat->Bool}{n m j:Nat}(h0:bv O (n+m)=bv A n*bv B j)(hb:B j=false):bv O (n+m)=bv A n*bv B (j+1):=by
 simp[bv,hb,h0]
theorem bv_add(T:Nat->Bool)(a b:Nat):bv T (a+b)=bv T a+2^a*bv (fun k=>T (a+k)) b:=by
 induction b with
 | zero=>simp[bv]
 | succ b ih=>
   have e:a+(b+1)=(a+b)+1:=om
   rw[e];simp only[bv];rw[ih,Nat.pow_add,Nat.mul_add,Nat.add_assoc,Nat.mul_left_comm]
def jW(T:Nat->Bool)(q:Nat):Nat:=bv (fun k=>T (32*q+k)) 32
theorem abk(T:Nat->Bool)(q:Nat):jW T q<4294967296:=sJ _ 32
theorem aeD(T:Nat->Bool)(c:Nat):lv (jW T) c=bv T (32*c):=by
 induction c with
 | zero=>rfl
 | succ c ih=>rw[Nat.mul_add,bv_add];simp only[lv,ih,jW,Nat.mul_comm]
theorem mV(T:Nat->Bool)(r:Nat):bv T (r+1)=2*bv (fun k=>T (k+1)) r+(T 0).toNat:=by
 rw[Nat.add_comm r 1,bv_add];simp only[bv,Nat.pow_zero,Nat.mul_one,Nat.zero_add,Nat.pow_one];rw[Nat.add_comm]
 congr 2
 exact fW (fun j _=>by rw[Nat.add_comm])
theorem adm(T:Nat->Bool)(m q:Nat)(h1:32*q<m)(h2:m<=32*(q+1))(ht:T (m-1)=true):jW T q≠0:=by
 intro h;unfold jW at h
 have e:∀n,bv (fun k=>T (32*q+k)) n=0->∀k,k<n->T (32*q+k)=false:=by
  intro n
  induction n with
  | zero=>intro _ k hk;omega
  | succ n ih=>
    intro hn k hk;simp only[bv] at hn;have hp:0<2^n:=Nat.pow_pos om
    by_cases c:k=n
    . subst c
      cases hT:T (32*q+k)
      . rfl
      . rw[hT] at hn;simp at hn
    . exact ih om k om
 have:=e 32 h (m-1-32*q) om;rw[show 32*q+(m-1-32*q)=m-1 by omega,ht] at this;cases this
def pu(P0 P:Nat->Nat)(a:Nat)(B:Nat->Nat)(i j c:Nat):Prop:=
 (∀k,i+j<=k->P k=P0 k)/\(∀k,P k<4294967296)/\c<4294967296/\lv P (i+j)+c*2^(32*(i+j))=lv P0 (i+j)+a*lv B j*2^(32*i)
theorem xI{P:Nat->Nat}(hP:∀k,P k<4294967296)(a:Nat)(B:Nat->Nat)(i:Nat):pu P P a B i 0 0:=⟨fun _ _=>rfl,hP,om,by simp[lv]⟩
theorem uD{P0 P:Nat->Nat}{a:Nat}{B:Nat->Nat}{i j c:Nat}(h:pu P0 P a B i j c)(ha:a<4294967296)(hb:B j<4294967296):
 a*B j+P (i+j)+c<18446744073709551616/\a*B j+P (i+j)<18446744073709551616/\a*B j<18446744073709551616:=by
 have h1:a*B j<=4294967295*4294967295:=Nat.mul_le_mul om om;have h2:=h.2.1 (i+j);have h3:=h.2.2.1;omega
theorem zO{P0 P:Nat->Nat}{a:Nat}{B:Nat->Nat}{i j c s:Nat}(h:pu P0 P a B i j c)(ha:a<4294967296)(hb:B j<4294967296)(hs:s=a*B j+P (i+j)+c):
 pu P0 (fun k=>if k=i+j then s % 4294967296 else P k) a B i (j+1) (s/4294967296):=by
 have hsum:=(uD h ha hb).1;rw[<-hs] at hsum;obtain⟨h1,h2,h3,h4⟩:=h;refine⟨fun k hk=> ?_,fun k=> ?_,om, ?_⟩
 . show (if k=i+j then _ else P k)=_
   rw[if_neg om];exact h1 k om
 . show (if k=i+j then _ else P k)<_
   split
   . omega
   . exact h2 k
 . have e:i+(j+1)=(i+j)+1:=om
   have hc:lv (fun k=>if k=i+j then s % 4294967296 else P k) (i+j)=lv P (i+j):=dD (fun k hk=>by rw[if_neg om]);have hx0:=(h1 (i+j) (Nat.le_refl _)).symm;rw[e,jq];simp only[lv,hc,if_true,hx0]
   have e2:s % 4294967296*2^(32*(i+j))+s/4294967296*(4294967296*2^(32*(i+j)))=s*2^(32*(i+j)):=by
    rw[<-Nat.mul_assoc,<-Nat.add_mul];congr 1;omega
   have e4:a*(lv B j+B j*2^(32*j))*2^(32*i)=a*lv B j*2^(32*i)+a*B j*2^(32*(i+j)):=by
    rw[Nat.mul_add,Nat.add_mul,<-Nat.mul_assoc,Nat.mul_assoc (a*B j),<-Nat.pow_add,show 32*j+32*i=32*(i+j) by omega]
   rw[Nat.add_assoc,e2,e4,hs];generalize 2^(32*(i+j))=q at*;rw[Nat.add_mul,Nat.add_mul];omega
theorem abc{P0 P:Nat->Nat}{A B:Nat->Nat}{i m c:Nat}(h:pu P0 P (A i) B i m c)(h0:lv P0 (i+m)=lv A i*lv B m):
 lv (fun k=>if k=i+m then c else P k) (i+1+m)=lv A (i+1)*lv B m:=by
 obtain⟨h1,h2,h3,h4⟩:=h;have e:i+1+m=(i+m)+1:=om
 have hc:lv (fun k=>if k=i+m then c else P k) (i+m)=lv P (i+m):=dD (fun k hk=>by rw[if_neg om]);rw[e];simp only[lv,hc,if_true];rw[h4,h0,Nat.add_mul,Nat.mul_right_comm]
def fd(x y:Nat):Int:=if x<y then-1 else if y<x then 1 else 0
theorem lD{x y:Nat}(h:x<y):fd x y=-1:=by simp[fd,h]
theorem qw{x y:Nat}(h:y<x):fd x y=1:=by simp[fd,h];omega
theorem yj{x y:Nat}(h:x=y):fd x y=0:=by simp[fd,h]
theorem ahj(B:Nat->Bool)(n:Nat)(h:0<n)(ht:B (n-1)=true):2^(n-1)<=bv B n:=by
 obtain⟨m,rfl⟩:∃m,n=m+1:=⟨n-1,om⟩;simp only[bv,Nat.add_sub_cancel] at*
 simp[ht]
theorem mT{A B:Nat->Bool}{n m:Nat}(h:n<m)(ht:0<m->B (m-1)=true):bv A n<bv B m:=by
 have h1:=sJ A n;have h2:=ahj B m om (ht om);have h3:2^n<=2^(m-1):=Nat.pow_le_pow_right om om;omega
theorem yv{A B:Nat->Bool}{n m:Nat}(ht:0<n->A (n-1)=true)(h:bv A n<=bv B m):n<=m:=by
 by_cases e:n<=m
 . exact e
 . have:=mT (A:=B) (B:=A) (n:=m) (m:=n) om ht
   omega
theorem af8{A B:Nat->Bool}{n i:Nat}(hi:i<n)(h:∀j,i<j->j<n->A j=B j)(ha:A i=false)(hb:B i=true):bv A n<bv B n:=by
 induction n with
 | zero=>omega
 | succ n ih=>
   by_cases e:i=n
   . subst e
     simp only[bv,ha,hb];have:=sJ A i
     simp;omega
   . have:=ih om (fun j h1 h2=>h j h1 om)
     simp only[bv];rw[h n om om];omega
theorem aeB{A B:Nat->Nat}{n i:Nat}(hl:∀j,j<n->A j<4294967296)(hi:i<n)(h:∀j,i<j->j<n->A j=B j)(hlt:A i<B i):lv A n<lv B n:=by
 induction n with
 | zero=>omega
 | succ n ih=>
   by_cases e:i=n
   . subst e
     simp only[lv];have h1:=fy A i (fun j hj=>hl j om);have h2:(A i+1)*2^(32*i)<=B i*2^(32*i):=Nat.mul_le_mul_right _ hlt;rw[Nat.add_mul] at h2;omega
   . have:=ih (fun j hj=>hl j om) om (fun j h1 h2=>h j h1 om)
     simp only[lv];rw[h n om om];omega
theorem mB{A B:Nat->Nat}{n m:Nat}(hl:∀j,j<n->A j<4294967296)(h:n<m)(ht:0<m->B (m-1)≠0):lv A n<lv B m:=by
 have h1:=fy A n hl;have h2:=jU B m om (ht om);have h3:2^(32*n)<=2^(32*(m-1)):=Nat.pow_le_pow_right om om;omega
theorem afd(x y c:Bool):((x != y) != c).toNat+y.toNat+c.toNat=x.toNat+2*((!x&&y) ||(!x&&c) ||(y&&c)).toNat:=by
 cases x<;>cases y<;>cases c<;>rfl
def fX{α:Type}(D:Nat->α)(i:Nat)(v:α):Nat->α:=fun k=>if k=i then v else D k
theorem bK{α:Type}(D:Nat->α)(i:Nat)(v:α):fX D i v i=v:=by simp[fX]
theorem az{α:Type}(D:Nat->α)(i:Nat)(v:α)(k:Nat)(h:k≠i):fX D i v k=D k:=by simp[fX,h]
theorem abI(D:Nat->Bool)(i:Nat)(v:Bool)(n:Nat)(h:n<=i):bv (fX D i v) n=bv D n:=fW (fun j hj=>az _ _ _ _ om)
theorem xM(D:Nat->Nat)(i:Nat)(v:Nat)(n:Nat)(h:n<=i):lv (fX D i v) n=lv D n:=dD (fun j hj=>az _ _ _ _ om)
def rJ(D A B:Nat->Bool)(m i:Nat)(c:Bool):Prop:=bv D i+bv (ext B m) i=bv A i+c.toNat*2^i
theorem rU{D A B:Nat->Bool}{m i:Nat}{c x y:Bool}(h:rJ D A B m i c)(hx:A i=x)(hy:ext B m i=y):
 rJ (fX D i ((x != y) != c)) A B m (i+1) ((!x&&y) ||(!x&&c) ||(y&&c)):=by
 unfold rJ at*;have hf:=afd x y c;simp only[bv,abI D i _ i (Nat.le_refl _),bK,hx,hy];generalize ((x != y) != c).toNat=s at hf⊢;generalize ((!x&&y) ||(!x&&c) ||(y&&c)).toNat=d at hf⊢
 have e:s*2^i+y.toNat*2^i+c.toNat*2^i=x.toNat*2^i+d*2^(i+1):=by
  rw[<-Nat.add_mul,<-Nat.add_mul,hf,Nat.add_mul,Nat.pow_succ,Nat.mul_comm (2^i) 2,<-Nat.mul_assoc,Nat.mul_comm d 2]
 omega
theorem aaP{D A B:Nat->Bool}{n m:Nat}{c:Bool}(h:rJ D A B m n c)(hm:m<=n)(hle:bv B m<=bv A n):bv D n=bv A n-bv B m:=by
 unfold rJ at h;rw[vi B m n hm] at h;cases c
 . simp at h;omega
 . have:=sJ D n
   simp at h;omega
def hb(A:Nat->Bool)(i n:Nat):Nat:=bv (fun t=>A (i+t)) (n-i)
theorem ahL(A:Nat->Bool)(n:Nat):hb A n n=0:=by simp[hb,bv]
theorem acx(A:Nat->Bool)(n:Nat):hb A 0 n=bv A n:=by simp[hb]
theorem tL(A:Nat->Bool)(i n:Nat)(h:i<n):hb A i n=2*hb A (i+1) n+(A i).toNat:=by
 unfold hb;rw[show n-i=(n-(i+1))+1 by omega,mV]
 congr 2
 exact fW (fun j _=>by rw[show i+(j+1)=i+1+j by omega])
theorem aeY{A B:Nat->Bool}{i n:Nat}(h:∀j,i<=j->j<n->A j=B j):hb A i n=hb B i n:=fW (fun j hj=>h _ om om)
def lK(A Q:Nat->Bool)(n i D R:Nat):Prop:=hb A i n=hb Q i n*D+R/\R<D/\∀j,j<i->Q j=false
theorem ye(A:Nat->Bool)(n D:Nat)(hD:0<D):lK A (fun _=>false) n n D 0:=⟨by simp[ahL],hD,fun _ _=>rfl⟩
theorem ab9{A Q:Nat->Bool}{n i D R:Nat}(h:lK A Q n (i+1) D R)(hi:i<n)(hge:D<=(A i).toNat+2*R):lK A (fX Q i true) n i D ((A i).toNat+2*R-D):=by
 obtain⟨h1,h2,h3⟩:=h;refine⟨?_, ?_,fun j hj=>by rw[az _ _ _ _ om];exact h3 j om⟩
 . rw[tL A i n hi,tL _ i n hi,bK,h1,aeY (fun j a _=>az Q i true j om)]
   rw[Nat.add_mul,Nat.mul_add,Bool.toNat_true,Nat.one_mul,<-Nat.mul_assoc 2];omega
 . have:=(A i).toNat_le
   omega
theorem vV{A Q:Nat->Bool}{n i D R:Nat}(h:lK A Q n (i+1) D R)(hi:i<n)(hlt:(A i).toNat+2*R<D):lK A Q n i D ((A i).toNat+2*R):=by
 obtain⟨h1,h2,h3⟩:=h;refine⟨?_,hlt,fun j hj=>h3 j om⟩;have e:(2*hb Q (i+1) n+false.toNat)*D=2*(hb Q (i+1) n*D):=by simp[Nat.mul_assoc]
 rw[tL A i n hi,tL _ i n hi,h3 i om,e,h1];omega
theorem abA{A Q:Nat->Bool}{n D R:Nat}(h:lK A Q n 0 D R):bv Q n=bv A n/D/\R=bv A n % D:=by
 obtain⟨h1,h2,_⟩:=h;rw[acx,acx] at h1;have hD:0<D:=om
 have e:bv A n=R+bv Q n*D:=om
 rw[e];refine⟨?_, ?_⟩
 . rw[Nat.add_mul_div_right _ _ hD,Nat.div_eq_of_lt h2,Nat.zero_add]
 . rw[Nat.add_mul_mod_self_right,Nat.mod_eq_of_lt h2]
def push(b:Bool)(R:Nat->Bool):Nat->Bool:=fun j=>if j=0 then b else R (j-1)
theorem agE(b:Bool)(R:Nat->Bool)(n:Nat):bv (push b R) (n+1)=b.toNat+2*bv R n:=by
 rw[mV,Nat.add_comm]
 rfl
theorem abe(T:Nat->Nat)(a b:Nat):lv T (a+b)=lv T a+2^(32*a)*lv (fun k=>T (a+k)) b:=by
 induction b with
 | zero=>simp[lv]
 | succ b ih=>
   have e:a+(b+1)=(a+b)+1:=om
   rw[e];simp only[lv];rw[ih,Nat.mul_add 32,Nat.pow_add,Nat.mul_add,Nat.add_assoc,Nat.mul_left_comm]
theorem zS(T:Nat->Nat)(r:Nat):lv T (r+1)=4294967296*lv (fun k=>T (k+1)) r+T 0:=by
 rw[Nat.add_comm r 1,abe];simp only[lv,Nat.mul_zero,Nat.pow_zero,Nat.mul_one,Nat.zero_add];rw[Nat.add_comm]
 congr 2
 exact dD (fun j _=>by rw[Nat.add_comm])
def hl(X:Nat->Nat)(i n:Nat):Nat:=lv (fun t=>X (i+t)) (n-i)
theorem xY(A:Nat->Nat)(n:Nat):hl A n n=0:=by simp[hl,lv]
theorem qg(A:Nat->Nat)(n:Nat):hl A 0 n=lv A n:=by simp[hl]
theorem od(A:Nat->Nat)(i n:Nat)(h:i<n):hl A i n=4294967296*hl A (i+1) n+A i:=by
 unfold hl;rw[show n-i=(n-(i+1))+1 by omega,zS]
 congr 2
 exact dD (fun j _=>by rw[show i+(j+1)=i+1+j by omega])
theorem aaq{A B:Nat->Nat}{i n:Nat}(h:∀j,i<=j->j<n->A j=B j):hl A i n=hl B i n:=dD (fun j hj=>h _ om om)
def qH(X Q:Nat->Nat)(n i d r:Nat):Prop:=hl X i n=hl Q i n*d+r/\r<d/\(∀j,j<i->Q j=X j)/\∀j,j<n->Q j<4294967296
theorem vM{X:Nat->Nat}{n d:Nat}(hd:0<d)(hX:∀j,j<n->X j<4294967296):qH X X n n d 0:=⟨by simp[xY],hd,fun _ _=>rfl,hX⟩
theorem xO{X Q:Nat->Nat}{n i d r:Nat}(h:qH X Q n (i+1) d r)(hi:i<n)(hx:X i<4294967296):
 qH X (fX Q i ((r*4294967296+X i)/d)) n i d ((r*4294967296+X i) % d)/\(r*4294967296+X i)/d<4294967296:=by
 obtain⟨h1,h2,h3,h4⟩:=h;have hd:0<d:=om
 have hq:(r*4294967296+X i)/d<4294967296:=by
  rw[Nat.div_lt_iff_lt_mul hd];have:(r+1)*4294967296<=d*4294967296:=Nat.mul_le_mul_right _ h2;omega
 refine⟨⟨?_,Nat.mod_lt _ hd,fun j hj=>by rw[az _ _ _ _ om];exact h3 j om,fun j hj=> ?_⟩,hq⟩
 . rw[od X i n hi,od _ i n hi,bK,h1,aaq (fun j a _=>az Q i _ j om)]
   generalize hl Q (i+1) n=q;have e:=Nat.div_add_mod (r*4294967296+X i) d;rw[Nat.add_mul,Nat.mul_comm ((r*4294967296+X i)/d) d,Nat.mul_assoc 4294967296];omega
 . by_cases e:j=i
   . subst e;rw[bK];exact hq
   . rw[az _ _ _ _ e];exact h4 j hj
theorem zY{X Q:Nat->Nat}{n d r:Nat}(h:qH X Q n 0 d r):lv Q n=lv X n/d/\r=lv X n % d:=by
 obtain⟨h1,h2,_⟩:=h;rw[qg,qg] at h1;have hD:0<d:=om
 have e:lv X n=r+lv Q n*d:=om
 rw[e];refine⟨?_, ?_⟩
 . rw[Nat.add_mul_div_right _ _ hD,Nat.div_eq_of_lt h2,Nat.zero_add]
 . rw[Nat.add_mul_mod_self_right,Nat.mod_eq_of_lt h2]
theorem ah6(i x y:Nat)(hx:x % 2^i=0)(hy:y<2^i):y ||| x=x+y:=by
 have hq:x=2^i*(x/2^i):=by
  have:=Nat.div_add_mod x (2^i);omega
 rw[Nat.or_comm,hq,<-Nat.two_pow_add_eq_or_of_lt hy (x/2^i)]
theorem my(p:Nat)(hp:p<=32):2^p<=4294967296:=by
 have:2^p<=2^32:=Nat.pow_le_pow_right om hp;omega
theorem nK(p:Nat)(hp:p<=32):2^p*2^(32-p)=4294967296:=by
 rw[<-Nat.pow_add,show p+(32-p)=32 by omega]
theorem acn(x p:Nat)(hp:p<=32):(x*2^p % 4294967296) % 2^p=0:=by
 rw[<-nK p hp,Nat.mod_mul_right_mod];exact Nat.mul_mod_left _ _
theorem ag2(x p:Nat)(hx:x<4294967296):x*2^p/4294967296<2^p:=by
 rw[Nat.div_lt_iff_lt_mul om,Nat.mul_comm];exact Nat.mul_lt_mul_of_pos_left hx (Nat.pow_pos om)
theorem aeH(x p s:Nat)(hp:p<=32)(hs:s<2^p):x*2^p % 4294967296+s<4294967296:=by
 have h1:x*2^p % 4294967296<4294967296:=Nat.mod_lt _ om;have h2:=acn x p hp;have h3:=nK p hp;have h4:=Nat.div_add_mod (x*2^p % 4294967296) (2^p);rw[h2,Nat.add_zero] at h4;generalize x*2^p % 4294967296=l at*;generalize l/2^p=q at*
 have hq:q<2^(32-p):=by
  by_cases h:q<2^(32-p)
  . exact h
  . have:2^p*2^(32-p)<=2^p*q:=Nat.mul_le_mul_left _ om
    omega
 have h5:2^p*(q+1)<=2^p*2^(32-p):=Nat.mul_le_mul_left _ hq;rw[Nat.mul_add] at h5;omega
def yB(X S:Nat->Nat)(whole p i:Nat):Prop:=lv S (i+whole+1)=lv X i*2^(32*whole+p)/\S (i+whole)<2^p/\∀k,S k<4294967296
theorem xp(X:Nat->Nat)(whole p:Nat):yB X (fun _=>0) whole p 0:=
 ⟨by rw[nT (fun _=>0) 0 (0+whole+1) om (fun _ _ _=>rfl)];simp[lv],Nat.pow_pos om,fun _=>by show 0<_;omega⟩
theorem zf{X S:Nat->Nat}{whole p i:Nat}(h:yB X S whole p i)(hp:p<32)(hx:X i<4294967296):
 yB X (fX (fX S (i+whole) (X i*2^p % 4294967296+S (i+whole))) (i+whole+1) (X i*2^p/4294967296)) whole p (i+1):=by
 obtain⟨h1,h2,h3⟩:=h;have hr:=aeH (X i) p _ om h2;have hh:=ag2 (X i) p hx;have hp2:=my p om;refine⟨?_, ?_,fun k=> ?_⟩
 . have e:i+1+whole+1=(i+whole+1)+1:=om
   rw[e];simp only[lv,bK];rw[xM _ _ _ _ om,xM _ _ _ _ om,az _ _ _ _ om,bK];simp only[lv] at h1;rw[Nat.add_mul (X i*2^p % 4294967296),jq]
   have e2:X i*2^p % 4294967296*2^(32*(i+whole))+X i*2^p/4294967296*(4294967296*2^(32*(i+whole)))=X i*2^p*2^(32*(i+whole)):=by
    rw[<-Nat.mul_assoc,<-Nat.add_mul];congr 1;omega
   have e3:(lv X i+X i*2^(32*i))*2^(32*whole+p)=lv X i*2^(32*whole+p)+X i*2^p*2^(32*(i+whole)):=by
    rw[Nat.add_mul,Nat.mul_assoc (X i),Nat.mul_assoc (X i),<-Nat.pow_add,<-Nat.pow_add,show 32*i+(32*whole+p)=p+32*(i+whole) by omega]
   rw[e3];omega
 . rw[show i+1+whole=i+whole+1 by omega,bK];exact hh
 . by_cases e1:k=i+whole+1
   . subst e1;rw[bK];omega
   . rw[az _ _ _ _ e1]
     by_cases e2:k=i+whole
     . subst e2;rw[bK];exact hr
     . rw[az _ _ _ _ e2];exact h3 k
theorem ahC(X:Nat->Nat)(n whole:Nat)(h:whole<=n)(hX:∀j,j<n->X j<4294967296):lv (fun t=>X (whole+t)) (n-whole)=lv X n/2^(32*whole):=by
 have e:=abe X whole (n-whole);rw[show whole+(n-whole)=n by omega] at e;rw[e,Nat.add_mul_div_left _ _ (Nat.pow_pos om),Nat.div_eq_of_lt (fy X whole (fun j hj=>hX j om)),Nat.zero_add]
def iZ(X:Nat->Nat)(n p j:Nat):Nat:=((X j+(if j+1<n then X (j+1) else 0)*4294967296)/2^p) % 4294967296
theorem aaR(X:Nat->Nat)(n p j:Nat):iZ X n p j<4294967296:=Nat.mod_lt _ om
theorem ahK(X:Nat->Nat)(n p i:Nat)(hp:p<32)(hi:i<=n)(hX:∀j,j<n->X j<4294967296):hl (iZ X n p) i n=hl X i n/2^p:=by
 obtain⟨d,hd⟩:∃d,d=n-i:=⟨_,rfl⟩
 induction d generalizing i with
 | zero=>
   have e:i=n:=om
   subst e
   simp[xY]
 | succ d ih=>
   have hi':i<n:=om
   rw[od _ i n hi',od X i n hi',ih (i+1) om om];have hs:=nK p om;have hpp:0<2^p:=Nat.pow_pos om;have hqp:0<2^(32-p):=Nat.pow_pos om;have hx:=hX i hi'
   have hH:hl X (i+1) n % 4294967296=(if i+1<n then X (i+1) else 0):=by
    by_cases h2:i+1<n
    . rw[if_pos h2,od X (i+1) n h2]
      have:=hX (i+1) h2;omega
    . rw[if_neg h2,show i+1=n by omega,xY]
   unfold iZ;rw[<-hH];generalize hl X (i+1) n=H at*;generalize X i=x at*;generalize hP:2^p=P at*;generalize hQ:2^(32-p)=Q at*
   have key:(4294967296*H+x)/P=Q*H+x/P:=by
    rw[<-hs,Nat.mul_assoc,Nat.mul_add_div hpp]
   have key2:(x+H % 4294967296*4294967296)/P=x/P+Q*(H % 4294967296):=by
    rw[Nat.mul_comm (H % 4294967296),<-hs,Nat.mul_assoc,Nat.add_comm,Nat.mul_add_div hpp,Nat.add_comm]
   rw[key,key2]
   have hxP:x/P<Q:=by
    rw[Nat.div_lt_iff_lt_mul hpp,Nat.mul_comm,hs];exact hx
   have e1:H=4294967296*(H/4294967296)+H % 4294967296:=(Nat.div_add_mod _ _).symm
   have e2:Q*H=4294967296*(H/P)+Q*(H % P):=by
    have h:=Nat.div_add_mod H P;have h2:Q*H=Q*(P*(H/P)+H % P):=by rw[h]
    rw[h2,Nat.mul_add,<-Nat.mul_assoc,Nat.mul_comm Q P,hs]
   have e3:(x/P+Q*(H % 4294967296)) % 4294967296=x/P+Q*(H % P):=by
    have hm:H % 4294967296 % P=H % P:=by rw[<-hs];exact Nat.mod_mul_right_mod _ _ _
    have h:=Nat.div_add_mod (H % 4294967296) P;rw[hm] at h
    have h2:Q*(H % 4294967296)=4294967296*(H % 4294967296/P)+Q*(H % P):=by
     have h3:Q*(H % 4294967296)=Q*(P*(H % 4294967296/P)+H % P):=by rw[h]
     rw[h3,Nat.mul_add,<-Nat.mul_assoc,Nat.mul_comm Q P,hs]
    have hlt:x/P+Q*(H % P)<4294967296:=by
     have h4:Q*(H % P+1)<=Q*P:=Nat.mul_le_mul_left _ (Nat.mod_lt _ hpp);rw[Nat.mul_add,Nat.mul_comm Q P,hs] at h4;omega
    rw[h2,show x/P+(4294967296*(H % 4294967296/P)+Q*(H % P))=(x/P+Q*(H % P))+4294967296*(H % 4294967296/P) by omega,Nat.add_mul_mod_self_left,Nat.mod_eq_of_lt hlt]
   rw[e2,e3];omega
theorem abd(X:Nat->Nat)(n p:Nat)(hp:p<32)(hX:∀j,j<n->X j<4294967296):lv (iZ X n p) n=lv X n/2^p:=by
 have:=ahK X n p 0 hp (Nat.zero_le _) hX
 rwa[qg,qg] at this
def jm(u0 u1 u2 v1 v2:Nat):Nat:=min (((u0*4294967296+u1)*4294967296+u2)/(v1*4294967296+v2)) 4294967295
theorem wU(u0 u1 u2 v1 v2:Nat):jm u0 u1 u2 v1 v2<=4294967295:=Nat.min_le_right _ _
theorem oQ(u0 u1 u2 v1 v2:Nat):jm u0 u1 u2 v1 v2<=((u0*4294967296+u1)*4294967296+u2)/(v1*4294967296+v2):=by
 unfold jm;exact Nat.min_le_left _ _
def jN(u0 u1 u2 v1 v2 g r:Nat):Prop:=g*v1+r=u0*4294967296+u1/\jm u0 u1 u2 v1 v2<=g
theorem ag9{l u v1 v2:Nat}(h1:0<v1)(hu:u<4294967296):(l*4294967296+u)/(v1*4294967296+v2)<=l/v1:=by
 rw[Nat.le_div_iff_mul_le h1];have hq:=Nat.div_mul_le_self (l*4294967296+u) (v1*4294967296+v2);generalize (l*4294967296+u)/(v1*4294967296+v2)=q at*;rw[Nat.mul_add,<-Nat.mul_assoc] at hq;omega
theorem aar{u0 u1 u2 v1 v2:Nat}(h1:0<v1)(hu:u2<4294967296):jN u0 u1 u2 v1 v2 ((u0*4294967296+u1)/v1) ((u0*4294967296+u1) % v1):=by
 have a:=oQ u0 u1 u2 v1 v2;have b:=ag9 (l:=u0*4294967296+u1) (v2:=v2) h1 hu;have c:=Nat.div_add_mod (u0*4294967296+u1) v1;rw[Nat.mul_comm] at c;exact⟨c,Nat.le_trans a b⟩
theorem ab2{u0 u1 u2 v1 v2 g r:Nat}(h:g*v1+r=u0*4294967296+u1)(hv:0<v1)(hm:g<=4294967295)(ht:g*v2<=r*4294967296+u2):g<=jm u0 u1 u2 v1 v2:=by
 refine Nat.le_min.2 ⟨?_,hm⟩;rw[Nat.le_div_iff_mul_le om,<-h,Nat.mul_add,<-Nat.mul_assoc];omega
theorem aev{g v1 v2 r u:Nat}(ht:r*4294967296+u<g*v2):(g*v1+r)*4294967296+u<g*(v1*4294967296+v2):=by
 have e:g*(v1*4294967296+v2)=g*v1*4294967296+g*v2:=by rw[Nat.mul_add g,<-Nat.mul_assoc g]
 rw[e,Nat.add_mul (g*v1) r,Nat.add_assoc];exact Nat.add_lt_add_left ht _
theorem ab1{u0 u1 u2 v1 v2 g r:Nat}(h:g*v1+r=u0*4294967296+u1)(ht:4294967295<g∨r*4294967296+u2<g*v2):jm u0 u1 u2 v1 v2<g:=by
 rcases ht with ht | ht
 . have:=wU u0 u1 u2 v1 v2;omega
 . have a:=oQ u0 u1 u2 v1 v2
   rw[<-h] at a
   have hpos:0<v1*4294967296+v2:=by
    by_cases h0:v2=0
    . subst h0;simp at ht
    . omega
   exact Nat.lt_of_le_of_lt a ((Nat.div_lt_iff_lt_mul hpos).2 (aev ht))
theorem uP{u0 u1 u2 v1 v2 g r:Nat}(h:jN u0 u1 u2 v1 v2 g r)(ht:4294967295<g∨r*4294967296+u2<g*v2):1<=g/\jN u0 u1 u2 v1 v2 (g-1) (r+v1):=by
 have:=ab1 h.1 ht;refine⟨om, ?_,om⟩;have h1:=h.1;obtain⟨g',rfl⟩:∃g',g=g'+1:=⟨g-1,om⟩;rw[Nat.add_mul] at h1;simp only[Nat.add_sub_cancel];omega
theorem uO{u0 u1 u2 v1 v2 g r:Nat}(h:jN u0 u1 u2 v1 v2 g r)(hv:0<v1)(hm:g<=4294967295)(ht:g*v2<=r*4294967296+u2):g=jm u0 u1 u2 v1 v2:=
 Nat.le_antisymm (ab2 h.1 hv hm ht) h.2
theorem sD{u0 u1 u2 v1 v2 g r:Nat}(h:jN u0 u1 u2 v1 v2 g r)(hv:0<v1)(hv2:v2<4294967296)(hu0:u0<=v1)(hu1:u1<4294967296)(hr:4294967295<r):g<=4294967295/\g=jm u0 u1 u2 v1 v2:=by
 have hm:g<=4294967295:=by
  by_cases e:g<=4294967295
  . exact e
  . have h1:=h.1
    have h2:4294967296*v1<=g*v1:=Nat.mul_le_mul_right _ om;omega
 refine⟨hm,uO h hv hm ?_⟩;have h3:g*v2<=4294967295*4294967295:=Nat.mul_le_mul hm om;omega
theorem aas{u0 u1 u2 v1 v2 g r:Nat}(h:jN u0 u1 u2 v1 v2 g r)(hv:2147483648<=v1)(hu0:u0<=v1)(hu1:u1<4294967296):g<=8589934592:=by
 have h1:=h.1
 by_cases e:g<=8589934592
 . exact e
 . have h2:8589934593*v1<=g*v1:=Nat.mul_le_mul_right _ om
   omega
theorem ab0{U D U3 D2 P g:Nat}(hP:0<P)(hU:U3*P<=U/\U<(U3+1)*P)(hD:D2*P<=D/\D<(D2+1)*P)(hDb:4294967296<=D2)(hlt:U<D*4294967296)
 (hg:g=min (U3/D2) 4294967295):U/D<=g/\g<=U/D+1:=by
 have hD0:0<D:=by
  have:1*P<=D2*P:=Nat.mul_le_mul_right _ om;omega
 have hq:=Nat.div_mul_le_self U D
 have hq2:U<(U/D+1)*D:=by
  have:=Nat.lt_div_mul_add hD0 (a:=U);rw[Nat.add_mul,Nat.one_mul];exact this
 have hqb:U/D<4294967296:=by rw[Nat.div_lt_iff_lt_mul hD0,Nat.mul_comm];exact hlt
 generalize U/D=q at*
 constructor
 . rw[hg]
   refine Nat.le_min.2 ⟨?_,om⟩;rw[Nat.le_div_iff_mul_le om];have h1:q*D2*P<=q*D:=by rw[Nat.mul_assoc];exact Nat.mul_le_mul_left _ hD.1
   have h2:q*D2*P<(U3+1)*P:=om
   have:=Nat.lt_of_mul_lt_mul_right h2;omega
 . by_cases hgt:g<=q+1
   . exact hgt
   . exfalso
     have hgm:g<=4294967295:=by rw[hg];exact Nat.min_le_right _ _
     have hgd:g*D2<=U3:=by
      have h1:g<=U3/D2:=by rw[hg];exact Nat.min_le_left _ _
      exact Nat.le_trans (Nat.mul_le_mul_right _ h1) (Nat.div_mul_le_self _ _)
     have a1:g*D2*P<=U3*P:=Nat.mul_le_mul_right _ hgd;obtain⟨k,hk⟩:∃k,g=k+1:=⟨g-1,om⟩;have a2:(q+1)*D<=k*D:=Nat.mul_le_mul_right _ om;have a3:k*D<=k*((D2+1)*P):=Nat.mul_le_mul_left _ (Nat.le_of_lt hD.2);rw[<-Nat.mul_assoc] at a3;have a4:g*D2*P<k*(D2+1)*P:=om
     have a5:=Nat.lt_of_mul_lt_mul_right a4;rw[hk,Nat.add_mul,Nat.mul_add,Nat.mul_one,Nat.one_mul] at a5;omega
def qE(W0 W Y:Nat->Nat)(g p i owed:Nat):Prop:=
 lv (fun t=>W (p+t)) i+g*lv Y i=lv (fun t=>W0 (p+t)) i+owed*2^(32*i)/\owed<=4294967295/\(∀k,k<p∨p+i<=k->W k=W0 k)/\∀k,W k<4294967296
theorem aaI{W:Nat->Nat}(hW:∀k,W k<4294967296)(Y:Nat->Nat)(g p:Nat):qE W W Y g p 0 0:=⟨by simp[lv],om,fun _ _=>rfl,hW⟩
theorem acO{W0 W Y:Nat->Nat}{g p i owed m x:Nat}(h:qE W0 W Y g p i owed)(hg:g<=4294967295)(hy:Y i<4294967296)(hm:m=g*Y i+owed)(hx:W (p+i)=x):
 m<18446744073709551616/\
 qE W0 (fX W (p+i) ((x+4294967296-m % 4294967296) % 4294967296)) Y g p (i+1) (m/4294967296+if x<m % 4294967296 then 1 else 0):=by
 obtain⟨h1,h2,h3,h4⟩:=h;have hxl:x<4294967296:=by rw[<-hx];exact h4 _
 have hgy:g*Y i<=4294967295*4294967295:=Nat.mul_le_mul hg om;have hx0:W0 (p+i)=x:=by rw[<-hx];exact (h3 (p+i) (Or.inr (Nat.le_refl _))).symm
 refine⟨om, ?_, ?_,fun k hk=> ?_,fun k=> ?_⟩
 . have hc:lv (fun t=>fX W (p+i) ((x+4294967296-m % 4294967296) % 4294967296) (p+t)) i=lv (fun t=>W (p+t)) i:=dD (fun k hk=>az _ _ _ _ om)
   simp only[lv,bK,hc,hx0];rw[Nat.mul_add,jq,<-Nat.mul_assoc g];have hgm:g*Y i=m-owed:=om
   have hom:owed<=m:=om
   generalize 2^(32*i)=P at*;generalize hs:(x+4294967296-m % 4294967296) % 4294967296=s
   have e:s+m=x+(m/4294967296+if x<m % 4294967296 then 1 else 0)*4294967296:=by
    split<;>omega
   have e2:s*P+m*P=x*P+(m/4294967296+if x<m % 4294967296 then 1 else 0)*(4294967296*P):=by
    rw[<-Nat.mul_assoc,<-Nat.add_mul,<-Nat.add_mul,e]
   have e3:g*Y i*P+owed*P=m*P:=by rw[<-Nat.add_mul,<-hm]
   omega
 . split<;>omega
 . rw[az _ _ _ _ om];exact h3 k om
 . by_cases e:k=p+i
   . subst e;rw[bK];omega
   . rw[az _ _ _ _ e];exact h4 k
theorem adU{W0 W Y:Nat->Nat}{g p n owed x:Nat}(h:qE W0 W Y g p n owed)(hx:W (p+n)=x):
 lv (fun t=>fX W (p+n) ((x+4294967296-owed) % 4294967296) (p+t)) (n+1)+g*lv Y n=lv (fun t=>W0 (p+t)) (n+1)+(if x<owed then 1 else 0)*2^(32*(n+1))/\
 (∀k,k<p∨p+n+1<=k->fX W (p+n) ((x+4294967296-owed) % 4294967296) k=W0 k)/\∀k,fX W (p+n) ((x+4294967296-owed) % 4294967296) k<4294967296:=by
 obtain⟨h1,h2,h3,h4⟩:=h;have hxl:x<4294967296:=by rw[<-hx];exact h4 _
 have hx0:W0 (p+n)=x:=by rw[<-hx];exact (h3 (p+n) (Or.inr (Nat.le_refl _))).symm
 refine⟨?_,fun k hk=> ?_,fun k=> ?_⟩
 . have hc:lv (fun t=>fX W (p+n) ((x+4294967296-owed) % 4294967296) (p+t)) n=lv (fun t=>W (p+t)) n:=dD (fun k hk=>az _ _ _ _ om)
   simp only[lv,bK,hc,hx0];rw[jq];generalize 2^(32*n)=P at*;generalize hs:(x+4294967296-owed) % 4294967296=s;have e:s+owed=x+(if x<owed then 1 else 0)*4294967296:=by split<;>omega
   have e2:s*P+owed*P=x*P+(if x<owed then 1 else 0)*(4294967296*P):=by
    rw[<-Nat.mul_assoc,<-Nat.add_mul,<-Nat.add_mul,e]
   omega
 . rw[az _ _ _ _ om];exact h3 k om
 . by_cases e:k=p+n
   . subst e;rw[bK];omega
   . rw[az _ _ _ _ e];exact h4 k
def qI(W0 W Y:Nat->Nat)(p i c:Nat):Prop:=
 lv (fun t=>W (p+t)) i+c*2^(32*i)=lv (fun t=>W0 (p+t)) i+lv Y i/\c<=1/\(∀k,k<p∨p+i<=k->W k=W0 k)/\∀k,W k<4294967296
theorem ab4{W:Nat->Nat}(hW:∀k,W k<4294967296)(Y:Nat->Nat)(p:Nat):qI W W Y p 0 0:=⟨by simp[lv],om,fun _ _=>rfl,hW⟩
theorem ad1{W0 W Y:Nat->Nat}{p i c s x:Nat}(h:qI W0 W Y p i c)(hy:Y i<4294967296)(hx:W (p+i)=x)(hs:s=x+Y i+c):
 qI W0 (fX W (p+i) (s % 4294967296)) Y p (i+1) (s/4294967296):=by
 obtain⟨h1,h2,h3,h4⟩:=h;have hxl:x<4294967296:=by rw[<-hx];exact h4 _
 have hx0:W0 (p+i)=x:=by rw[<-hx];exact (h3 (p+i) (Or.inr (Nat.le_refl _))).symm
 refine⟨?_,om,fun k hk=> ?_,fun k=> ?_⟩
 . have hc:lv (fun t=>fX W (p+i) (s % 4294967296) (p+t)) i=lv (fun t=>W (p+t)) i:=dD (fun k hk=>az _ _ _ _ om)
   simp only[lv,bK,hc,hx0];rw[jq];generalize 2^(32*i)=P at*
   have e2:s % 4294967296*P+s/4294967296*(4294967296*P)=x*P+Y i*P+c*P:=by
    rw[<-Nat.mul_assoc,<-Nat.add_mul,<-Nat.add_mul,<-Nat.add_mul];congr 1;omega
   omega
 . rw[az _ _ _ _ om];exact h3 k om
 . by_cases e:k=p+i
   . subst e;rw[bK];omega
   . rw[az _ _ _ _ e];exact h4 k
theorem afa{W0 W Y:Nat->Nat}{p n c x:Nat}(h:qI W0 W Y p n c)(hx:W (p+n)=x):
 lv (fun t=>fX W (p+n) ((x+c) % 4294967296) (p+t)) (n+1)+(x+c)/4294967296*2^(32*(n+1))=lv (fun t=>W0 (p+t)) (n+1)+lv Y n/\
 (∀k,k<p∨p+n+1<=k->fX W (p+n) ((x+c) % 4294967296) k=W0 k)/\(∀k,fX W (p+n) ((x+c) % 4294967296) k<4294967296)/\(x+c)/4294967296<=1:=by
 obtain⟨h1,h2,h3,h4⟩:=h;have hxl:x<4294967296:=by rw[<-hx];exact h4 _
 have hx0:W0 (p+n)=x:=by rw[<-hx];exact (h3 (p+n) (Or.inr (Nat.le_refl _))).symm
 refine⟨?_,fun k hk=> ?_,fun k=> ?_,om⟩
 . have hc:lv (fun t=>fX W (p+n) ((x+c) % 4294967296) (p+t)) n=lv (fun t=>W (p+t)) n:=dD (fun k hk=>az _ _ _ _ om)
   simp only[lv,bK,hc,hx0];rw[jq];generalize 2^(32*n)=P at*
   have e2:(x+c) % 4294967296*P+(x+c)/4294967296*(4294967296*P)=x*P+c*P:=by
    rw[<-Nat.mul_assoc,<-Nat.add_mul,<-Nat.add_mul];congr 1;omega
   omega
 . rw[az _ _ _ _ om];exact h3 k om
 . by_cases e:k=p+n
   . subst e;rw[bK];omega
   . rw[az _ _ _ _ e];exact h4 k
def lJ(N0 D dl L nn:Nat)(W Q:Nat->Nat)(k:Nat):Prop:=
 N0=hl Q k L*2^(32*k)*D+lv W (k+dl)/\lv (fun t=>W (k+t)) dl<D/\(∀j,k+dl<=j->j<nn->W j=0)/\(∀j,W j<4294967296)/\∀j,Q j<4294967296
def lM(W:Nat->Nat)(a n:Nat):Nat:=lv (fun t=>W (a+t)) n
theorem aaD{W:Nat->Nat}(h:∀j,W j<4294967296)(a n:Nat):lM W a n<2^(32*n):=fy _ _ (fun _ _=>h _)
theorem acL(W:Nat->Nat)(a n:Nat):lM W a (n+1)=4294967296*lM W (a+1) n+W a:=by
 unfold lM;rw[zS];have e:lv (fun k=>W (a+(k+1))) n=lv (fun t=>W (a+1+t)) n:=dD (fun j _=>by rw[show a+(j+1)=a+1+j by omega]);rw[e];rfl
theorem aeA(W:Nat->Nat)(a n:Nat):lv W (a+n)=lv W a+2^(32*a)*lM W a n:=abe W a n
theorem abf{W:Nat->Nat}{D dl L nn:Nat}(hnn:nn=L+dl)(hdl:0<dl)(hW:∀j,W j<4294967296)(ht:W (nn-1)=0)(hD:2^(32*(dl-1))<=D):lJ (lv W nn) D dl L nn W (fun _=>0) L:=by
 refine⟨by rw[xY,hnn];simp, ?_,fun j h1 h2=>by omega,hW,fun _=>by show 0<_;omega⟩;obtain⟨e,rfl⟩:∃e,dl=e+1:=⟨dl-1,om⟩;simp only[Nat.add_sub_cancel] at hD
 have h1:lv (fun t=>W (L+t)) (e+1)=lv (fun t=>W (L+t)) e:=by
  simp only[lv];rw[show L+e=nn-1 by omega,ht];simp
 rw[h1];exact Nat.lt_of_lt_of_le (fy _ _ (fun j _=>hW _)) hD
theorem sj{N0 D dl L nn a:Nat}{W Q:Nat->Nat}(h:lJ N0 D dl L nn W Q (a+1)):lM W a (dl+1)<D*4294967296:=by
 have h2:=h.2.1;have hw:=h.2.2.2.1 a;rw[acL];have:4294967296*(lM W (a+1) dl+1)<=4294967296*D:=Nat.mul_le_mul_left _ h2;rw[Nat.mul_add] at this;omega
theorem aeI{N0 D dl L nn a:Nat}{W Q Y:Nat->Nat}(h:lJ N0 D dl L nn W Q (a+1))(hdl:0<dl)(hD:D=lv Y dl)(hY:∀j,j<dl->Y j<4294967296):W (a+dl)<=Y (dl-1):=by
 have h2:lM W (a+1) dl<D:=h.2.1;obtain⟨e,rfl⟩:∃e,dl=e+1:=⟨dl-1,om⟩;simp only[Nat.add_sub_cancel]
 by_cases hc:W (a+(e+1))<=Y e
 . exact hc
 . exfalso
   unfold lM at h2;rw[hD] at h2;simp only[lv] at h2;rw[show a+1+e=a+(e+1) by omega] at h2;have h3:=fy Y e (fun j hj=>hY j om);have h4:(Y e+1)*2^(32*e)<=W (a+(e+1))*2^(32*e):=Nat.mul_le_mul_right _ om;rw[Nat.add_mul] at h4;omega
theorem abg{W Y:Nat->Nat}{a dl D:Nat}(hdl:2<=dl)(hD:D=lv Y dl)(hY:∀j,j<dl->Y j<4294967296)(hW:∀j,W j<4294967296)(hv:1<=Y (dl-1))(hU:lM W a (dl+1)<D*4294967296):
 lM W a (dl+1)/D<=jm (W (a+dl)) (W (a+dl-1)) (W (a+dl-2)) (Y (dl-1)) (Y (dl-2))/\
 jm (W (a+dl)) (W (a+dl-1)) (W (a+dl-2)) (Y (dl-1)) (Y (dl-2))<=lM W a (dl+1)/D+1:=by
 obtain⟨e,rfl⟩:∃e,dl=e+2:=⟨dl-2,om⟩;have i1:a+(e+2)-1=a+(e+1):=om
 have i2:a+(e+2)-2=a+e:=om
 have i3:e+2-1=e+1:=om
 have i4:e+2-2=e:=om
 rw[i3] at hv;rw[i1,i2,i3,i4];have lo1:=fy (fun t=>W (a+t)) e (fun j _=>hW _);have lo2:=fy Y e (fun j hj=>hY j om);have p1:=jq e;have p2:2^(32*(e+2))=4294967296*(4294967296*2^(32*e)):=by rw[jq (e+1),jq e]
 have eU:lM W a (e+2+1)=lv (fun t=>W (a+t)) e+((W (a+(e+2))*4294967296+W (a+(e+1)))*4294967296+W (a+e))*2^(32*e):=by
  unfold lM;simp only[lv];rw[p1,p2];simp only[Nat.add_mul,Nat.mul_assoc];omega
 have eD:D=lv Y e+(Y (e+1)*4294967296+Y e)*2^(32*e):=by
  rw[hD];simp only[lv];rw[p1];simp only[Nat.add_mul,Nat.mul_assoc];omega
 have hP:0<2^(32*e):=Nat.pow_pos om;have kk:∀A:Nat,(A+1)*2^(32*e)=A*2^(32*e)+2^(32*e):=fun A=>by rw[Nat.add_mul A 1,Nat.one_mul]
 refine ab0 (U3:=(W (a+(e+2))*4294967296+W (a+(e+1)))*4294967296+W (a+e)) (D2:=Y (e+1)*4294967296+Y e) (P:=2^(32*e)) hP ?_ ?_ om hU rfl
 . rw[eU]
   refine⟨om, ?_⟩;rw[kk];omega
 . rw[eD]
   refine⟨om, ?_⟩;rw[kk];omega
theorem wO{N0 D dl L nn a q:Nat}{W W1 Q:Nat->Nat}(h:lJ N0 D dl L nn W Q (a+1))(ha:a<L)(hDl:D<=2^(32*dl))(hD:0<D)(hq:q=lM W a (dl+1)/D)(hw:lM W1 a (dl+1)+q*D=lM W a (dl+1))
 (hf:∀k,k<a∨a+dl+1<=k->W1 k=W k)(hl1:∀k,W1 k<4294967296):lJ N0 D dl L nn W1 (fX Q a q) a/\q<4294967296:=by
 have hU:=sj h;obtain⟨h1,h2,h3,h4,h5⟩:=h;have hqb:q<4294967296:=by rw[hq,Nat.div_lt_iff_lt_mul hD,Nat.mul_comm];exact hU
 have hr:lM W1 a (dl+1)<D:=by
  have e:=Nat.div_add_mod (lM W a (dl+1)) D;have m:=Nat.mod_lt (lM W a (dl+1)) hD;rw[<-hq,Nat.mul_comm] at e;omega
 have htop:W1 (a+dl)=0:=by
  have e:lM W1 a (dl+1)=lM W1 a dl+W1 (a+dl)*2^(32*dl):=rfl
  by_cases hz:W1 (a+dl)=0
  . exact hz
  . have:1*2^(32*dl)<=W1 (a+dl)*2^(32*dl):=Nat.mul_le_mul_right _ om
    omega
 have hwd:lM W1 a dl=lM W1 a (dl+1):=by
  have e:lM W1 a (dl+1)=lM W1 a dl+W1 (a+dl)*2^(32*dl):=rfl;rw[e,htop];simp
 refine⟨⟨?_, ?_,fun j j1 j2=> ?_,hl1,fun j=> ?_⟩,hqb⟩
 . rw[h1,od _ a L ha,bK,aaq (fun j j1 _=>az Q a q j om)]
   have e1:lv W (a+1+dl)=lv W a+2^(32*a)*lM W a (dl+1):=by
    rw[show a+1+dl=a+(dl+1) by omega];exact aeA W a (dl+1)
   have e2:lv W1 (a+dl)=lv W a+2^(32*a)*lM W1 a dl:=by
    rw[aeA W1 a dl,dD (fun j hj=>hf j (Or.inl hj))]
   rw[e1,e2,hwd,<-hw,jq];generalize hl Q (a+1) L=H;generalize 2^(32*a)=P;generalize lM W1 a (dl+1)=R;rw[Nat.mul_add P,Nat.add_mul,Nat.add_mul,Nat.mul_left_comm P q D,<-Nat.mul_assoc H,Nat.mul_comm H 4294967296,<-Nat.mul_assoc q P D];omega
 . show lM W1 a dl<D
   rw[hwd];exact hr
 . by_cases e:j=a+dl
   . subst e;exact htop
   . rw[hf j om];exact h3 j om j2
 . by_cases e:j=a
   . subst e;rw[bK];exact hqb
   . rw[az _ _ _ _ e];exact h5 j
theorem aeJ{N0 D dl L nn:Nat}{W Q:Nat->Nat}(h:lJ N0 D dl L nn W Q 0)(hnn:dl<=nn):lv Q L=N0/D/\lv W nn=N0 % D:=by
 obtain⟨h1,h2,h3,h4,h5⟩:=h;rw[qg,Nat.mul_zero,Nat.pow_zero,Nat.mul_one,Nat.zero_add] at h1;have e0:lv (fun t=>W (0+t)) dl=lv W dl:=dD (fun j _=>by rw[Nat.zero_add]);rw[e0] at h2;have e:=nT W dl nn hnn (fun j a b=>h3 j om b);have hD:0<D:=om
 rw[e,h1,Nat.add_comm];refine⟨?_, ?_⟩
 . rw[Nat.add_mul_div_right _ _ hD,Nat.div_eq_of_lt h2,Nat.zero_add]
 . rw[Nat.add_mul_mod_self_right,Nat.mod_eq_of_lt h2]
theorem aaJ{U D g V:Nat}(hD:0<D)(h:V+g*D=U)(hg:U/D<=g):g=U/D:=by
 have:g<=U/D:=by rw[Nat.le_div_iff_mul_le hD];omega
 omega
theorem acP{U D g V V2 cy B:Nat}(hD:0<D)(h:V+g*D=U+B)(hV:V<B)(hg:g<=U/D+1)(h2:V2+cy*B=V+D)(hc:cy<=1)(hV2:V2<B):1<=g/\g-1=U/D/\V2+(g-1)*D=U:=by
 have hgt:U/D<g:=by rw[Nat.div_lt_iff_lt_mul hD];omega
 have e:g=U/D+1:=om
 have hq:=Nat.div_mul_le_self U D;generalize U/D=q at*;subst e;rw[Nat.add_mul,Nat.one_mul] at h;refine⟨om,om, ?_⟩;simp only[Nat.add_sub_cancel];have hcy:cy=0∨cy=1:=om
 rcases hcy with rfl | rfl
 . omega
 . omega
theorem aaS{y s:Nat}(hs:s<32)(h2:y*2^s<4294967296):(y+1)*2^s<=4294967296:=by
 have hp:=nK s om;rw[<-hp,Nat.mul_comm (y+1)];refine Nat.mul_le_mul_left _ ?_;rw[<-hp,Nat.mul_comm] at h2;have:=Nat.lt_of_mul_lt_mul_left h2;omega
theorem ze{Y S:Nat->Nat}{dl s:Nat}(hdl:0<dl)(hs:s<32)(hY:∀j,j<dl->Y j<4294967296)(hS:∀k,S k<4294967296)(h1:2147483648<=Y (dl-1)*2^s)(h2:Y (dl-1)*2^s<4294967296)
 (hv:lv S (dl+1)=lv Y dl*2^s):ce (nz S) (dl+1)=dl/\lv S dl=lv Y dl*2^s/\2147483648<=S (dl-1)/\2^(32*(dl-1))<=lv S dl/\lv S dl<=2^(32*dl):=by
 obtain⟨e,rfl⟩:∃e,dl=e+1:=⟨dl-1,om⟩;simp only[Nat.add_sub_cancel] at*;have b:=aaS hs h2;have lo:=fy Y e (fun j hj=>hY j om)
 have hD1:2147483648*2^(32*e)<=lv Y (e+1)*2^s:=by
  have a1:Y e*2^s*2^(32*e)<=lv Y (e+1)*2^s:=by
   simp only[lv];rw[Nat.mul_right_comm];exact Nat.mul_le_mul_right _ om
  exact Nat.le_trans (Nat.mul_le_mul_right _ h1) a1
 have hD2:lv Y (e+1)*2^s<2^(32*(e+1)):=by
  have a1:lv Y (e+1)<(Y e+1)*2^(32*e):=by simp only[lv];rw[Nat.add_mul];omega
  have a2:lv Y (e+1)*2^s<(Y e+1)*2^(32*e)*2^s:=Nat.mul_lt_mul_of_pos_right a1 (Nat.pow_pos om);rw[Nat.mul_right_comm] at a2;have a3:(Y e+1)*2^s*2^(32*e)<=4294967296*2^(32*e):=Nat.mul_le_mul_right _ b;rw[jq];omega
 have hz:S (e+1)=0:=by
  by_cases c:S (e+1)=0
  . exact c
  . have:1*2^(32*(e+1))<=S (e+1)*2^(32*(e+1)):=Nat.mul_le_mul_right _ om
    have e3:lv S (e+1+1)=lv S (e+1)+S (e+1)*2^(32*(e+1)):=rfl;omega
 have hv2:lv S (e+1)=lv Y (e+1)*2^s:=by
  rw[<-hv]
  show _=lv S (e+1)+S (e+1)*2^(32*(e+1))
  rw[hz];simp
 have hS1:2147483648<=S e:=by
  have lo2:=fy S e (fun j _=>hS j);have e3:lv S (e+1)=lv S e+S e*2^(32*e):=rfl
  by_cases c:2147483648<=S e
  . exact c
  . have:(S e+1)*2^(32*e)<=2147483648*2^(32*e):=Nat.mul_le_mul_right _ om
    rw[Nat.add_mul] at this;omega
 refine⟨?_,hv2,hS1,om,om⟩;have n1:nz S (e+1)=false:=by simp[nz,hz]
 have n2:nz S e=true:=by simp[nz];omega
 simp[ce,n1,n2]
def iD(S:Nat->Nat)(t:Nat):Nat->Nat:=fun j=>if j<t then S j else 0
theorem adC{S:Nat->Nat}(t:Nat)(hS:∀k,S k<4294967296):∀k,iD S t k<4294967296:=fun k=>by unfold iD;split;exact hS k;omega
theorem pp(S:Nat->Nat)(t:Nat):iD S t t=0:=by simp[iD]
theorem adi(S:Nat->Nat)(t:Nat):lv (iD S t) (t+1)=lv S t:=by
 simp only[lv,pp];rw[dD (fun j hj=>show iD S t j=S j by simp[iD,hj])];simp
theorem acf{x y s:Nat}:x*2^s/(y*2^s)=x/y/\x*2^s % (y*2^s)/2^s=x % y:=by
 have hp:0<2^s:=Nat.pow_pos om;refine⟨Nat.mul_div_mul_right _ _ hp, ?_⟩;rw[Nat.mul_mod_mul_right,Nat.mul_div_cancel _ hp]
theorem ad2(a b:Nat):Nat.gcd (2*a) (2*b)=2*Nat.gcd a b:=Nat.gcd_mul_left 2 a b
theorem cop2{b:Nat}(h:b % 2=1):Nat.Coprime 2 b:=by
 unfold Nat.Coprime;rw[Nat.gcd_rec,h]
 rfl
theorem oR{a b:Nat}(h:b % 2=1):Nat.gcd (2*a) b=Nat.gcd a b:=Nat.Coprime.gcd_mul_left_cancel a (cop2 h)
theorem uS{a b:Nat}(h:a % 2=1):Nat.gcd a (2*b)=Nat.gcd a b:=by rw[Nat.gcd_comm,oR h,Nat.gcd_comm]
theorem qh{a b:Nat}(h:b<=a):Nat.gcd (a-b) b=Nat.gcd a b:=by
 have e:a=(a-b)+b:=om
 have h2:=Nat.gcd_add_self_left b (a-b);rw[<-e] at h2;exact h2.symm
theorem vU{a b:Nat}(h:a<=b):Nat.gcd a (b-a)=Nat.gcd a b:=by rw[Nat.gcd_comm,qh h,Nat.gcd_comm]
def sh(A:Nat->Bool)(k:Nat):Nat->Bool:=fun j=>A (j+k)
theorem ahi(A:Nat->Bool)(n:Nat)(h:0<n):bv A n=2*bv (sh A 1) (n-1)+(A 0).toNat:=by
 obtain⟨m,rfl⟩:∃m,n=m+1:=⟨n-1,om⟩;rw[mV];rfl
theorem tS{A:Nat->Bool}{n:Nat}(h:0<n)(h0:A 0=false):bv A n=2*bv (sh A 1) (n-1):=by rw[ahi A n h,h0];simp
theorem yu{A:Nat->Bool}{n:Nat}(h:0<n)(h0:A 0=true):bv A n % 2=1:=by rw[ahi A n h,h0];simp
def mm(k:Nat)(B:Nat->Bool):Nat->Bool:=fun j=>if j<k then false else B (j-k)
theorem af7(k:Nat)(B:Nat->Bool)(n:Nat):bv (mm k B) (k+n)=2^k*bv B n:=by
 rw[bv_add];have e1:bv (mm k B) k=0:=by rw[tR (mm k B) 0 k om (fun j _ hj=>by simp[mm,hj])];rfl
 have e2:bv (fun j=>mm k B (k+j)) n=bv B n:=fW (fun j _=>by simp[mm]);rw[e1,e2];simp
structure Lp(A B:Nat)(r s u v x y:Nat)(e:Bool):Prop where
 er:if e then (r:Int)=u*A-x*B else (r:Int)=x*B-u*A
 es:if e then (s:Int)=y*B-v*A else (s:Int)=v*A-y*B
 dt:if e then (u*y:Int)-v*x=1 else (v*x:Int)-u*y=1
 hA:y*r+x*s=A
 y1:1<=y
 vy:v<=y
 hu:x≠0->u<=x/\1<=v
 x0:x=0->u=1/\v=0/\y=1/\e=true
 xy:x<=y
 sr:s<=r
theorem Lp.start{A B:Nat}(h:B<=A):Lp A B A B 1 0 0 1 true:=⟨qz,qz,qz,qz,om,om,qz,qz,om,h⟩
theorem Lp.step{A B r s u v x y:Nat}{e:Bool}(h:Lp A B r s u v x y e)(h1:y<=s):
 Lp A B s (r % s) v (u+r/s*v) y (x+r/s*y) (!e):=by
 obtain⟨er,es,dt,hA,y1,vy,hu,x0,xy,sr⟩:=h;have hq:=Nat.div_add_mod r s;have hlt:=Nat.mod_lt r (show s>0 by omega);have q1:1<=r/s:=(Nat.one_le_div_iff om).2 sr;generalize r/s=q at*;generalize r % s=t at*;subst hq;have qv:v<=q*v:=Nat.le_mul_of_pos_left _ q1;have qy:y<=q*y:=Nat.le_mul_of_pos_left _ q1;have qvy:q*v<=q*y:=Nat.mul_le_mul_left _ vy
 constructor
 . cases e<;>simp_all
 . clear hu x0;cases e<;>simp_all<;>grind
 . clear hu x0;cases e<;>simp_all<;>grind
 . clear hu x0;grind
 . omega
 . by_cases hx:x=0
   . obtain⟨rfl,rfl,rfl,-⟩:=x0 hx
     omega
   . have:=hu hx;omega
 . intro _
   refine⟨vy, ?_⟩
   by_cases hx:x=0
   . obtain⟨rfl,rfl,rfl,-⟩:=x0 hx;omega
   . have:=(hu hx).2;omega
 . omega
 . omega
 . omega
def yG(N M u v x y:Nat)(odd:Bool):Prop:=
 x≠0->u<4294967296/\v<4294967296/\x<4294967296/\y<4294967296/\
  ∃G S,(if odd then G+u*N=x*M/\S+y*M=v*N else G+x*M=u*N/\S+v*N=y*M)/\S<=G/\G<=M/\Nat.gcd G S=Nat.gcd N M/\G+S<N+M
theorem acy{N M G S u v x y:Nat}(h1:N=y*G+x*S)(h2:M=v*G+u*S)(h3:∀d,d∣N->d∣M->d∣G/\d∣S):Nat.gcd G S=Nat.gcd N M:=by
 apply Nat.dvd_antisymm
 . apply Nat.dvd_gcd
   . rw[h1];exact Nat.dvd_add (Nat.dvd_trans (Nat.gcd_dvd_left _ _) (Nat.dvd_mul_left _ _)) (Nat.dvd_trans (Nat.gcd_dvd_right _ _) (Nat.dvd_mul_left _ _))
   . rw[h2];exact Nat.dvd_add (Nat.dvd_trans (Nat.gcd_dvd_left _ _) (Nat.dvd_mul_left _ _)) (Nat.dvd_trans (Nat.gcd_dvd_right _ _) (Nat.dvd_mul_left _ _))
 . have:=h3 _ (Nat.gcd_dvd_left N M) (Nat.gcd_dvd_right N M)
   exact Nat.dvd_gcd this.1 this.2
theorem qj{d N M G u x:Nat}(h1:d∣N)(h2:d∣M)(h:G+x*M=u*N):d∣G:=by
 have h3:d∣u*N:=Nat.dvd_trans h1 (Nat.dvd_mul_left _ _);rw[<-h] at h3;exact (Nat.dvd_add_iff_left (Nat.dvd_trans h2 (Nat.dvd_mul_left _ _))).2 h3
theorem rf{A B N M p u x r:Nat}(hN:A*p<=N)(hM:M<(B+1)*p)(h:(r:Int)=u*A-x*B)(hx:x<=r):x*M<=u*N:=by
 have a1:u*(A*p)<=u*N:=Nat.mul_le_mul_left _ hN;have a2:x*M<=x*((B+1)*p):=Nat.mul_le_mul_left _ (Nat.le_of_lt hM);have a3:r+x*B=u*A:=om
 have a4:x*((B+1)*p)<=u*(A*p):=by
  have:x*((B+1)*p)=(x*B+x)*p:=by grind
  rw[this];have:u*(A*p)=(u*A)*p:=by grind
  rw[this];exact Nat.mul_le_mul_right _ om
 omega
theorem agN{N M G S u v x y:Nat}(dt:(u*y:Int)-v*x=1)(g1:G+x*M=u*N)(g2:S+v*N=y*M):N=y*G+x*S/\M=v*G+u*S:=by
 have g1':(G:Int)=u*N-x*M:=by have:((G+x*M:Nat):Int)=((u*N:Nat):Int):=by rw[g1]
                              simp at this;omega
 have g2':(S:Int)=y*M-v*N:=by have:((S+v*N:Nat):Int)=((y*M:Nat):Int):=by rw[g2]
                              simp at this;omega
 have a:(N:Int)=y*G+x*S:=by
  have:(N:Int)=(u*y-v*x)*N:=by rw[dt];omega
  rw[this,g1',g2'];grind
 have b:(M:Int)=v*G+u*S:=by
  have:(M:Int)=(u*y-v*x)*M:=by rw[dt];omega
  rw[this,g1',g2'];grind
 exact⟨by exact_mod_cast a,by exact_mod_cast b⟩
theorem Lp.out{A B N M p r s u v x y:Nat}{e:Bool}(h:Lp A B r s u v x y e)(hA:A<18446744073709551616)(hN:A*p<=N)(hN':N<(A+1)*p)(hM:B*p<=M)(hM':M<(B+1)*p)(hN0:0<N)
 (h1:y<=s)(h2:x+y<=r-s):yG N M u v x y (!e):=by
 intro hx;obtain⟨er,es,dt,hAe,y1,vy,hu,x0,xy,sr⟩:=h;obtain⟨hu,hv⟩:=hu hx
 have b1:y<4294967296:=by
  apply Nat.lt_of_not_le
  intro h3;have:4294967296*4294967296<=y*r:=Nat.mul_le_mul h3 om;have:=Nat.zero_le (x*s);omega
 refine⟨om,om,om,b1, ?_⟩
 have fin:∀G S,N=y*G+x*S->M=v*G+u*S->S<=G->G<=M/\G+S<N+M:=by
  intro G S e1 e2 e3;have k1:G<=y*G:=Nat.le_mul_of_pos_left _ y1;have k2:G<=v*G:=Nat.le_mul_of_pos_left _ hv;have k3:S<=x*S:=Nat.le_mul_of_pos_left _ om
  by_cases hG:G=0
  . subst hG
    have:S=0:=om
    subst this
    simp at e1;omega
  . exact⟨om,om⟩
 cases e
 . simp at er es dt⊢
   have c1:=rf hM hN' om (show u<=r by omega);have c2:=rf hN hM' om (show y<=s by omega);have c3:(u+v)*N<=(x+y)*M:=rf (r:=r-s) hM hN' (by rw[Int.ofNat_sub sr];grind) (show u+v<=r-s by omega);rw[Nat.add_mul,Nat.add_mul] at c3;obtain⟨G,hG⟩:∃G,G=x*M-u*N:=⟨_,rfl⟩;obtain⟨S,hS⟩:∃S,S=v*N-y*M:=⟨_,rfl⟩;have g1:G+u*N=x*M:=om
   have g2:S+y*M=v*N:=om
   obtain⟨e1,e2⟩:=(show N=y*G+x*S/\M=v*G+u*S by
    have h:=agN (N:=M) (M:=N) (G:=G) (S:=S) (u:=x) (v:=y) (x:=u) (y:=v) (by rw[Int.mul_comm (x:Int),Int.mul_comm (y:Int)];exact dt) g1 g2;exact⟨h.2,h.1⟩)
   have e3:S<=G:=om
   exact⟨G,S,⟨g1,g2⟩,e3,(fin G S e1 e2 e3).1,acy e1 e2 (fun d d1 d2=>⟨qj d2 d1 g1,qj d1 d2 g2⟩),(fin G S e1 e2 e3).2⟩
 . simp at er es dt⊢
   have c1:=rf hN hM' om (show x<=r by omega);have c2:=rf hM hN' om (show v<=s by omega);have c3:(x+y)*M<=(u+v)*N:=rf (r:=r-s) hN hM' (by rw[Int.ofNat_sub sr];grind) (show x+y<=r-s by omega);rw[Nat.add_mul,Nat.add_mul] at c3;obtain⟨G,hG⟩:∃G,G=u*N-x*M:=⟨_,rfl⟩;obtain⟨S,hS⟩:∃S,S=y*M-v*N:=⟨_,rfl⟩;have g1:G+x*M=u*N:=om
   have g2:S+v*N=y*M:=om
   obtain⟨e1,e2⟩:=agN dt g1 g2;have e3:S<=G:=om
   exact⟨G,S,⟨g1,g2⟩,e3,(fin G S e1 e2 e3).1,acy e1 e2 (fun d d1 d2=>⟨qj d1 d2 g1,qj d2 d1 g2⟩),(fin G S e1 e2 e3).2⟩
def xk(a:Nat)(X:Nat->Nat)(b:Nat)(Y D:Nat->Nat)(i p q o:Nat):Prop:=
 a*lv X i+(q+o)*2^(32*i)=b*lv Y i+p*2^(32*i)+lv D i/\p<4294967296/\q<4294967296/\o<=1/\∀k,k<i->D k<4294967296
theorem ou(a:Nat)(X:Nat->Nat)(b:Nat)(Y D:Nat->Nat):xk a X b Y D 0 0 0 0:=⟨by simp[lv],om,om,om,fun k hk=>absurd hk om⟩
theorem gT{a x p:Nat}(ha:a<4294967296)(hx:x<4294967296)(hp:p<4294967296):x*a+p<18446744073709551616:=by
 have:x*a<=4294967295*4294967295:=Nat.mul_le_mul om om;omega
theorem qB{a:Nat}{X:Nat->Nat}{b:Nat}{Y D E:Nat->Nat}{i p q o d o':Nat}(h:xk a X b Y D i p q o)(ha:a<4294967296)(hb:b<4294967296)(hx:X i<4294967296)(hy:Y i<4294967296)(hd:d<4294967296)(ho:o'<=1)
 (hE:∀k,k<i->E k=D k)(hEi:E i=d)(e:(X i*a+p) % 4294967296+o'*4294967296=(Y i*b+q) % 4294967296+o+d):
 xk a X b Y E (i+1) ((X i*a+p)/4294967296) ((Y i*b+q)/4294967296) o':=by
 obtain⟨h1,h2,h3,h4,h5⟩:=h;have c1:=gT ha hx h2;have c2:=gT hb hy h3;refine⟨?_,om,om,ho,fun k hk=> ?_⟩
 . simp only[lv,hEi,dD hE]
   rw[jq];have m1:=Nat.div_add_mod (X i*a+p) 4294967296;have m2:=Nat.div_add_mod (Y i*b+q) 4294967296;generalize (X i*a+p)/4294967296=P at*;generalize (Y i*b+q)/4294967296=Q at*;generalize (X i*a+p) % 4294967296=r at*;generalize (Y i*b+q) % 4294967296=t at*;generalize 2^(32*i)=W at*;generalize X i=x at*;generalize Y i=y at*;generalize lv X i=LX at*;generalize lv Y i=LY at*;generalize lv D i=LD at*;have key:x*a+p+(Q+o')*4294967296=y*b+q+o+P*4294967296+d:=om
   have key2:(x*a+p+(Q+o')*4294967296)*W=(y*b+q+o+P*4294967296+d)*W:=by rw[key]
   have k3:a*(LX+x*W)=a*LX+x*a*W:=by grind
   have k4:b*(LY+y*W)=b*LY+y*b*W:=by grind
   rw[k3,k4];simp only[Nat.add_mul] at h1 key2⊢;have k5:Q*(4294967296*W)=Q*4294967296*W:=by grind
   have k6:o'*(4294967296*W)=o'*4294967296*W:=by grind
   have k7:P*(4294967296*W)=P*4294967296*W:=by grind
   omega
 . by_cases e2:k=i
   . subst e2;rw[hEi];exact hd
   . rw[hE k om];exact h5 k om
theorem tT{a:Nat}{X:Nat->Nat}{b:Nat}{Y D:Nat->Nat}{n p q o G:Nat}(h:xk a X b Y D n p q o)(e:G+b*lv Y n=a*lv X n)(hG:G<2^(32*n)):lv D n=G:=by
 obtain⟨h1,h2,h3,h4,h5⟩:=h;have h6:=fy D n h5;generalize 2^(32*n)=W at*;generalize lv D n=L at*;generalize a*lv X n=AX at*;generalize b*lv Y n=BY at*
 rcases Nat.lt_trichotomy p (q+o) with hl | he | hl
 . have:(p+1)*W<=(q+o)*W:=Nat.mul_le_mul_right _ hl
   rw[Nat.add_mul] at this;omega
 . rw[he] at h1;omega
 . have:(q+o+1)*W<=p*W:=Nat.mul_le_mul_right _ hl
   rw[Nat.add_mul] at this;omega
theorem owe{r t o:Nat}(hr:r<4294967296)(ht:t<4294967296)(ho:o<=1):∃d o',d<4294967296/\o'<=1/\r+o'*4294967296=t+o+d/\(((r:Int)-t-o) % 18446744073709551616/9223372036854775808=o')/\((r:Int)-t-o) % 18446744073709551616 % 4294967296=d:=by
 by_cases h:t+o<=r
 . exact⟨r-t-o,0,om,om,om,om,om⟩
 . exact⟨r+4294967296-t-o,1,om,om,om,om,om⟩
theorem uI(Z:Nat->Nat)(n s:Nat)(hn:3<=n)(hZ:∀j,j<n->Z j<4294967296)(hs:s<32)(ht:Z (n-1)*2^s<4294967296):
 ∃A,A=(Z (n-1)*4294967296+Z (n-2))*2^s+Z (n-3)*2^s/4294967296/\A<18446744073709551616/\(Z (n-1)*4294967296+Z (n-2))*2^s<18446744073709551616/\Z (n-3)*2^s/4294967296<2^s/\
  A*2^(32*(n-3)+(32-s))<=lv Z n/\lv Z n<(A+1)*2^(32*(n-3)+(32-s))/\A=lv Z n/2^(32*(n-3)+(32-s)):=by
 obtain⟨k,rfl⟩:∃k,n=k+3:=⟨n-3,om⟩;have e1:k+3-1=k+2:=om
 have e2:k+3-2=k+1:=om
 have e3:k+3-3=k:=om
 rw[e1] at ht;rw[e1,e2,e3];have hl:=fy Z k (fun j hj=>hZ j om)
 have hv:lv Z (k+3)=((Z (k+2)*4294967296+Z (k+1))*4294967296+Z k)*2^(32*k)+lv Z k:=by
  simp only[lv];rw[show 32*(k+2)=32*(k+1+1) by omega,jq,jq]
  grind
 have h2:Z (k+2)<4294967296:=hZ _ om;have h1:Z (k+1)<4294967296:=hZ _ om;have h0:Z k<4294967296:=hZ _ om;generalize Z (k+2)=z2 at*;generalize Z (k+1)=z1 at*;generalize Z k=z0 at*;have hp:2^(32*k+(32-s))=2^(32-s)*2^(32*k):=by rw[Nat.pow_add,Nat.mul_comm]
 have hq:2^(32-s)*2^s=4294967296:=by rw[<-Nat.pow_add,show 32-s+s=32 by omega]
 have hs0:0<2^s:=Nat.pow_pos om;have hr0:0<2^(32-s):=Nat.pow_pos om;have hs1:2^s<=2147483648:=Nat.le_trans (Nat.pow_le_pow_right om (show s<=31 by omega)) qd;rw[hp,hv];generalize lv Z k=r at*;generalize 2^(32*k)=W at*;generalize 2^(32-s)=R at*;generalize 2^s=T at*;have low:z0*T/4294967296<T:=by rw[Nat.div_lt_iff_lt_mul om,Nat.mul_comm T];exact Nat.mul_lt_mul_of_pos_right h0 hs0
 have lowR:z0*T/4294967296=z0/R:=by rw[<-hq,Nat.mul_div_mul_right _ _ hs0]
 have high:(z2*4294967296+z1)*T<18446744073709551616:=by
  have a1:z2*T<=4294967295:=om
  have a2:(z2*4294967296+z1)*T<=z2*T*4294967296+4294967295*T:=by
   have:(z2*4294967296+z1)*T=z2*T*4294967296+z1*T:=by grind
   rw[this];have:z1*T<=4294967295*T:=Nat.mul_le_mul_right _ om;omega
  have a3:z2*T+T<=4294967296:=by
   have:(z2+1)*T<=R*T:=Nat.mul_le_mul_right _ (by
    apply Nat.lt_of_not_le;intro hle
    have:R*T<=z2*T:=Nat.mul_le_mul_right _ hle;omega)
   rw[Nat.add_mul] at this;omega
  omega
 have ue:(z2*4294967296+z1)*T+z0*T/4294967296<18446744073709551616:=by
  have:(z2*4294967296+z1+1)*T<=18446744073709551616:=by
   have b1:z2<R:=by
    apply Nat.lt_of_not_le;intro hle
    have:R*T<=z2*T:=Nat.mul_le_mul_right _ hle;omega
   have b2:z2*4294967296+z1+1<=R*4294967296:=om
   have b3:=Nat.mul_le_mul_right T b2;have b4:R*4294967296*T=4294967296*(R*T):=by grind
   omega
  rw[Nat.add_mul _ 1] at this;omega
 have mid:(z2*4294967296+z1)*T+z0*T/4294967296=((z2*4294967296+z1)*4294967296+z0)/R:=by
  rw[lowR,<-hq,show (z2*(R*T)+z1)*(R*T)+z0=z0+R*((z2*(R*T)+z1)*T) by grind,Nat.add_mul_div_left _ _ hr0];omega
 have val:((z2*4294967296+z1)*4294967296+z0)/R=(((z2*4294967296+z1)*4294967296+z0)*W+r)/(R*W):=by
  rw[Nat.mul_comm R W,<-Nat.div_div_eq_div_mul,Nat.mul_comm _ W,Nat.add_comm (W*_) r,Nat.add_mul_div_left _ _ (show 0<W by omega),Nat.div_eq_of_lt hl,Nat.zero_add]
 have pos:0<R*W:=Nat.mul_pos hr0 om;refine⟨_,rfl,ue,high,low, ?_, ?_, ?_⟩
 . rw[mid,val];exact Nat.div_mul_le_self _ _
 . rw[mid,val]
   generalize ((z2*4294967296+z1)*4294967296+z0)*W+r=V;have:=Nat.lt_div_mul_add (a:=V) pos;rw[Nat.add_mul,Nat.one_mul];exact this
 . rw[mid,val]
end Go.Proofs.YtclgkofcooibfaaGreatDoor
