
set_option maxHeartbeats 6400000
set_option maxRecDepth 100000
namespace Go.Proofs.YtinihjgnnlemmaaGreatDoor
variable{n m c d k i j l o b p q t r s g h e:Nat}{X Y Z:Nat->Nat}{f F:Bool}
theorem om {p:Prop}(h:p:=by omega):p:=h
theorem qd {p:Prop}(h:p:=by decide):p:=h
theorem qz {p:Prop}(h:p:=by simp):p:=h
theorem zR:n<=n:=Nat.le_refl n
theorem yE{p:Prop}(h:p:=by assumption):p:=h
abbrev aC:=@Nat.le_refl
abbrev aJ:=@Nat.zero_le
abbrev aK:=@List.getElem?_eq_getElem
abbrev aM:=@if_neg
abbrev aP:=@Nat.mul_le_mul_right
abbrev aR:=@List.setIfInBounds_toArray
abbrev aS:=@Nat.lt_of_lt_of_le
abbrev aT:=@List.length_append
abbrev aU:=@Nat.le_trans
abbrev aY:=@if_pos
abbrev aZ:=@Nat.zero_add
abbrev bG:=@List.getElem?_eq_some_iff
abbrev bI:=@Nat.add_mul
abbrev bJ:=@List.getElem?_append_left
abbrev bK:=@List.getElem?_append_right
abbrev bS:=@List.length_map
abbrev cF:=@Nat.add_sub_cancel
abbrev cJ:=@Nat.mul_comm
abbrev cO:=@List.mem_of_getElem?
abbrev cQ:=@Nat.eq_zero_or_pos
abbrev cS:=@Nat.mul_assoc
abbrev cT:=@List.length_range
abbrev cY:=@List.getElem?_map
abbrev cZ:=@Nat.le_of_lt
abbrev dD:=@Nat.lt_of_le_of_lt
abbrev dE:=@Nat.mul_le_mul_left
abbrev dF:=@Nat.mul_le_mul
abbrev dG:=@List.map_cons
abbrev dI:=@List.set_cons_succ
abbrev dJ:=@List.getElem?_eq_none
abbrev dM:=@Array.getElem?_eq_some_iff
abbrev dP:=@Nat.pow_le_pow_right
abbrev dR:=@Int.natCast_mul
abbrev dS:=@Nat.one_mul
abbrev dT:=@List.mem_map
abbrev dU:=@List.mem_range
abbrev dV:=@List.take_of_length_le
abbrev dZ:=@List.append_assoc
abbrev eE:=@Option.map_eq_some_iff
abbrev eJ:=@List.map_append
abbrev fE:=@Nat.mul_pos
abbrev fG:=@List.map_congr_left
abbrev fH:=@Nat.add_assoc
abbrev fI:=@and_true
abbrev fK:=@List.getElem?_range
abbrev fL:=@Ne.symm
abbrev fM:=@true_and
abbrev fP:=@List.getD_eq_getElem?_getD
abbrev fS:=@List.length_cons
abbrev fT:=@Bool.and_eq_true
abbrev fU:=@Nat.le_mul_of_pos_left
abbrev fV:=@Nat.add_zero
abbrev fW:=@List.mem_cons
abbrev fX:=@Nat.pow_pos
abbrev fY:=@Nat.mul_add
abbrev gG:=@Bool.eq_iff_iff
abbrev gI:=@Option.getD_some
abbrev gJ:=@Nat.div_lt_iff_lt_mul
abbrev gQ:=@Rat.sub_eq_add_neg
abbrev gX:=@Bool.false_eq_true
abbrev gY:=@List.range_succ
abbrev iA:=@List.mem_cons_of_mem
abbrev iB:=@Nat.pow_add
abbrev iC:=@Nat.mod_eq_of_lt
abbrev iD:=@of_decide_eq_true
abbrev iF:=@Nat.mul_one
abbrev iG:=@List.flatMap_append
abbrev iH:=@Nat.pow_succ
abbrev iI:=@Nat.div_eq_of_lt
abbrev iJ:=@List.append_nil
abbrev iK:=@List.mem_flatMap
abbrev iL:=@Int.toNat_natCast
abbrev iO:=@if_false
abbrev iS:=@Nat.mod_lt
abbrev iT:=@Nat.zero_mul
abbrev iU:=@List.length_flatMap
abbrev iV:=@Nat.div_le_self
abbrev iW:=@Nat.div_add_mod
abbrev iX:=@List.mem_append
abbrev iZ:=@Nat.lt_succ_self
abbrev jA:=@List.not_mem_nil
abbrev jB:=@List.getElem_mem
abbrev jC:=@Nat.le_mul_of_pos_right
abbrev jD:=@Nat.gcd_dvd_right
abbrev jE:=@List.take_add_one
abbrev jF:=@List.ext_getElem?
abbrev jI:=@Nat.lt_or_ge
abbrev jJ:=@beq_iff_eq
abbrev jN:=@Nat.gcd_comm
abbrev jO:=@Nat.add_comm
abbrev jQ:=@Nat.gcd_dvd_left
abbrev jR:=@List.length_take
abbrev jT:=@Bool.or_eq_true
abbrev jU:=@decide_eq_true_iff
abbrev jV:=@Nat.le_of_not_lt
abbrev jW:=@Int.eq_ofNat_of_zero_le
abbrev jX:=@Nat.mul_lt_mul_of_pos_right
abbrev jY:=@Rat.mul_assoc
abbrev kC:=@List.map_nil
abbrev kD:=@Nat.lt_trichotomy
abbrev kJ:=@Option.map_some
abbrev kK:=@Classical.byContradiction
abbrev kQ:=@Nat.mul_div_mul_right
abbrev kR:=@Nat.le_div_iff_mul_le
abbrev kS:=@Bool.and_eq_false_iff
abbrev kZ:=@Nat.dvd_mul_left
abbrev lK:=@Int.natCast_emod
abbrev lQ:=@Nat.gcd_pos_of_pos_right
abbrev mE:=@List.take_append_of_le_length
abbrev mG:=@decide_eq_true_eq
abbrev mM:=@Nat.add_sub_cancel_left
abbrev mP:=@List.mem_filter
abbrev mR:=@List.length_nil
abbrev mS:=@Rat.mul_zero
abbrev mU:=@Nat.div_div_eq_div_mul
abbrev mY:=@List.cons_append
abbrev nG:=@bne_iff_ne
abbrev nJ:=@Nat.pos_of_ne_zero
abbrev oC:=@Nat.add_mul_div_right
abbrev oG:=@Rat.mul_one
abbrev oI:=@Nat.le_succ
abbrev oK:=@Nat.succ_pos
abbrev oO:=@Nat.mul_left_comm
abbrev oQ:=@Nat.gcd_zero_left
abbrev oR:=@Nat.dvd_trans
abbrev oS:=@List.getElem?_take_of_lt
abbrev oT:=@Nat.div_mul_le_self
abbrev oZ:=@Int.natAbs_mul
abbrev pE:=@Int.natCast_ediv
abbrev pI:=@Nat.div_one
abbrev pM:=@List.getElem?_drop
abbrev dQ:=@Nat.mul_add_div
abbrev pT:=@List.nil_append
abbrev qH:=@Int.ediv_nonneg
abbrev qI:=@List.sum_cons
abbrev qJ:=@List.length_filter_le
abbrev qL:=@Nat.two_pow_add_eq_or_of_lt
abbrev qM:=@Rat.neg_num
abbrev qO:=@or_false
abbrev qP:=@Int.natAbs_neg
abbrev qR:=@Nat.add_mul_mod_self_right
abbrev qT:=@Int.tdiv_eq_ediv_of_nonneg
abbrev qY:=@Nat.ne_of_gt
abbrev qZ:=@Nat.mul_lt_mul''
abbrev rE:=@Nat.gcd_le_right
abbrev rG:=@List.flatMap_map
abbrev rI:=@Int.ediv_le_self
abbrev rJ:=@beq_eq_false_iff_ne
abbrev rK:=@Nat.gcd_le_left
abbrev rM:=@Int.natCast_add
abbrev rN:=@Nat.mul_right_comm
abbrev rR:=@Nat.gcd_zero_right
abbrev rS:=@List.filter_append
abbrev rT:=@Int.natAbs_natCast
abbrev rX:=@Nat.mod_one
abbrev sJ:=@Nat.mul_zero
abbrev sU:=@List.map_map
abbrev tF:=@Int.mul_nonneg
abbrev tH:=@Bool.not_eq_true'
abbrev tI:=@List.take_append_drop
abbrev tJ:=@List.length_singleton
abbrev tK:=@Array.getElem?_toList
abbrev tL:=@decide_eq_decide
abbrev tM:=@Nat.lt_of_not_le
abbrev tN:=@List.map_toArray
abbrev tO:=@List.all_eq_true
abbrev tS:=@Nat.div_pos
abbrev tT:=@Rat.intCast_mul
abbrev uA:=@Nat.min_eq_left
abbrev uD:=@Nat.sub_self
abbrev uE:=@Classical.em
def bv(B:Nat->Bool):Nat->Nat
 | 0=>0
 | n+1=>bv B n+(B n).toNat*2^n
def lv(X:Nat->Nat):Nat->Nat
 | 0=>0
 | n+1=>lv X n+X n*2^(32*n)
def iy(P:Nat->Bool):Nat->Nat
 | 0=>0
 | n+1=>if P n then n+1 else iy P n
theorem jc(P:Nat->Bool)(n:Nat):iy P n<=n:=by
 induction n with
 | zero=>exact aC _
 | succ n ih=>unfold iy;split<;>omega
theorem jh(P:Nat->Bool)(n:Nat)(h:0<iy P n):P (iy P n-1)=true:=by
 induction n with
 | zero=>simp[iy] at h
 | succ n ih=>
   unfold iy at h⊢;by_cases a:P n=true
   . simp[a]
   . simp[a] at h⊢;exact ih h
theorem aax(P:Nat->Bool)(n m:Nat)(h:iy P n<=m)(b:m<n):P m=false:=by
 induction n with
 | zero=>omega
 | succ n ih=>
   unfold iy at h;by_cases a:P n=true
   . simp[a] at h;omega
   . simp[a] at h;by_cases e:m=n
     . subst e;simpa using a
     . exact ih h om
theorem aoB{P Q:Nat->Bool}(h:∀j,j<n->P j=Q j):iy P n=iy Q n:=by
 induction n with
 | zero=>rfl
 | succ n ih=>simp only[iy];rw[h n om,ih (fun j a=>h j om)]
theorem mr{P Q:Nat->Bool}(h:∀j,j<n->P j=Q j):bv P n=bv Q n:=by
 induction n with
 | zero=>rfl
 | succ n ih=>simp only[bv];rw[h n om,ih (fun j a=>h j om)]
theorem jS(h:∀j,j<n->X j=Y j):lv X n=lv Y n:=by
 induction n with
 | zero=>rfl
 | succ n ih=>simp only[lv];rw[h n om,ih (fun j a=>h j om)]
theorem cx(B:Nat->Bool)(n m:Nat)(h:n<=m)(a:∀j,n<=j->j<m->B j=false):bv B m=bv B n:=by
 induction m with
 | zero=>have:n=0:=om
         subst this;rfl
 | succ m ih=>
   by_cases e:n=m+1
   . subst e;rfl
   . simp only[bv];rw[a m om om,ih om (fun j b c=>a j b om)];simp
theorem yt(X:Nat->Nat)(n m:Nat)(h:n<=m)(a:∀j,n<=j->j<m->X j=0):lv X m=lv X n:=by
 induction m with
 | zero=>have:n=0:=om
         subst this;rfl
 | succ m ih=>
   by_cases e:n=m+1
   . subst e;rfl
   . simp only[lv];rw[a m om om,ih om (fun j b c=>a j b om)];simp
theorem rv(B:Nat->Bool)(n:Nat):bv B (iy B n)=bv B n:=
 (cx B _ _ (jc B n) (fun j a b=>aax B n j a b)).symm
def nz(X:Nat->Nat):Nat->Bool:=fun j=>X j != 0
theorem mC(X:Nat->Nat)(n:Nat):lv X (iy (nz X) n)=lv X n:=
 (yt X _ _ (jc _ n) (fun j a b=>by have:=aax _ n j a b;simpa [nz] using this)).symm
theorem ao(B:Nat->Bool)(n:Nat):bv B n<2^n:=by
 induction n with
 | zero=>simp[bv]
 | succ n ih=>
   simp only[bv,iH];cases B n<;>simp<;>omega
theorem anq(h:n<4294967296):n*p<=4294967295*p:=aP _ om
theorem qt(n:Nat):2^(32*(n+1))=4294967296*2^(32*n):=by
 rw[fY,iB];omega
theorem kI(X:Nat->Nat)(n:Nat)(h:∀j,j<n->X j<4294967296):lv X n<2^(32*n):=by
 induction n with
 | zero=>simp[lv]
 | succ n ih=>
   have a:=ih (fun j c=>h j om);have b:=anq (p:=2^(32*n)) (h n om);rw[qt];simp only[lv];omega
theorem rj(X:Nat->Nat)(n:Nat)(h:0<n)(a:X (n-1)≠0):2^(32*(n-1))<=lv X n:=by
 obtain⟨m,rfl⟩:∃m,n=m+1:=⟨n-1,om⟩;simp only[lv,cF] at*;have:1*2^(32*m)<=X m*2^(32*m):=aP _ om;omega
theorem alw(a:∀j,j<m->Y j<4294967296)(c:0<n->X (n-1)≠0)(h:lv X n=lv Y m):n<=m:=by
 by_cases d:n=0
 . omega
 . have e:=rj X n om (c om);have f:=kI Y m a;by_cases b:n<=m
   . exact b
   . have:2^(32*m)<=2^(32*(n-1)):=dP om om;omega
theorem anr(b:∀j,j<n->X j<4294967296)(d:∀j,j<n->Y j<4294967296)(h:lv X n=lv Y n):∀j,j<n->X j=Y j:=by
 induction n with
 | zero=>intro j a;omega
 | succ n ih=>
   have g:=kI X n (fun j a=>b j om);have i:=kI Y n (fun j a=>d j om);simp only[lv] at h;have f:0<2^(32*n):=fX om;have k:(lv X n+X n*2^(32*n))/2^(32*n)=X n:=(by rw[oC _ _ f,iI g];omega);have l:(lv Y n+Y n*2^(32*n))/2^(32*n)=Y n:=(by rw[oC _ _ f,iI i];omega);have e:X n=Y n:=(by rw[<-k,<-l,h]);rw[e] at h;have hl:lv X n=lv Y n:=om;intro j a;by_cases c:j=n
   . subst c;exact e
   . exact ih (fun j a=>b j om) (fun j a=>d j om) hl j om
theorem alx(a:∀j,j<n->X j<4294967296)(b:∀j,j<m->Y j<4294967296)
 (c:0<n->X (n-1)≠0)(d:0<m->Y (m-1)≠0)(h:lv X n=lv Y m):n=m/\∀j,j<n->X j=Y j:=by
 have e:=Nat.le_antisymm (alw b c h) (alw a d h.symm);subst e;exact⟨rfl,anr a b h⟩
def bitsOf(X:Nat->Nat)(j:Nat):Bool:=(X (j/32)/2^(j % 32)) % 2==1
theorem zQ(n:Nat):(n % 2==1).toNat=n % 2:=by
 rcases Nat.mod_two_eq_zero_or_one n with h | h<;>simp[h]
theorem anS(X:Nat->Nat)(n m:Nat)(l:m<=32)(b:∀j,j<n->X j<4294967296):
 bv (bitsOf X) (32*n+m)=lv X n+(X n % 2^m)*2^(32*n):=by
 induction n generalizing m with
 | zero=>
   induction m with
   | zero=>simp[bv,lv,rX]
   | succ m ihk=>
     have:=ihk om;simp only[sJ,aZ] at this⊢;simp only[bv,lv,aZ,Nat.pow_zero,iF] at this⊢;rw[this,bitsOf,zQ,show m/32=0 by omega,show m % 32=m by omega];rw[iH,Nat.mod_mul,cJ]
 | succ n ih=>
   induction m with
   | zero=>
     have a:=ih 32 om (fun j h=>b j om);have g:=iC (by have:=b n om;omega);rw[g] at a;have e:32*(n+1)+0=32*n+32:=om;rw[e,a];simp[lv,rX]
   | succ m ihk=>
     have a:=ihk om;have e:32*(n+1)+(m+1)=(32*(n+1)+m)+1:=om;rw[e];show bv (bitsOf X) (32*(n+1)+m)+_=_;rw[a,bitsOf,zQ];have c:(32*(n+1)+m)/32=n+1:=om;have d:(32*(n+1)+m) % 32=m:=om;rw[c,d];have f:X (n+1)/2^m % 2*2^(32*(n+1)+m)=2^m*(X (n+1)/2^m % 2)*2^(32*(n+1)):=(by generalize 32*(n+1)=u;rw[iB,cJ (2^u) (2^m),<-cS,cJ (X (n+1)/2^m % 2) (2^m)]);rw[f,fH,<-bI,iH,Nat.mod_mul]
theorem agt(X:Nat->Nat)(n:Nat)(a:∀j,j<n->X j<4294967296):bv (bitsOf X) (32*n)=lv X n:=by
 have:=anS X n 0 om a;simpa [rX] using this
def ext(A:Nat->Bool)(n:Nat):Nat->Bool:=fun j=>decide (j<n)&&A j
theorem bu(A:Nat->Bool)(n m:Nat)(h:n<=m):bv (ext A n) m=bv A n:=by
 rw[cx (ext A n) n m h (fun j b _=>by simp[ext];omega)];exact mr (fun j a=>by simp[ext,a])
theorem agh(f F c:Bool):((f != F) != c).toNat+2*((f&&F) ||(f&&c) ||(F&&c)).toNat=f.toNat+F.toNat+c.toNat:=by
 cases f<;>cases F<;>cases c<;>rfl
def vC(O0 O:Nat->Bool)(A:Nat->Bool)(n j i:Nat)(c:Bool):Prop:=
 (∀k,j+i<=k->O k=O0 k)/\bv O (j+i)+c.toNat*2^(j+i)=bv O0 (j+i)+2^j*bv (ext A n) i
theorem aeK(O:Nat->Bool)(A:Nat->Bool)(n m:Nat):vC O O A n m 0 false:=⟨fun _ _=>rfl,by simp[bv]⟩
theorem agv{a O:Nat->Bool}{A:Nat->Bool}{y:Bool}(h:vC a O A n m c f)(o:O (m+c)=F)(q:ext A n c=y):
 vC a (fun k=>if k=m+c then ((F != y) != f) else O k) A n m (c+1) ((F&&y) ||(F&&f) ||(y&&f)):=by
 obtain⟨i,r⟩:=h;refine⟨fun k j=> ?_, ?_⟩
 . show (if k=m+c then _ else O k)=_;rw[aM om];exact i k om
 . have e:m+(c+1)=(m+c)+1:=om;have l:bv (fun k=>if k=m+c then ((F != y) != f) else O k) (m+c)=bv O (m+c):=mr (fun k j=>by rw[aM om]);have p:a (m+c)=F:=(by rw[<-o];exact (i (m+c) zR).symm);rw[e];simp only[bv,l,if_true,p,q];have b:=agh F y f;generalize ((F != y) != f).toNat=s at b⊢;generalize ((F&&y) ||(F&&f) ||(y&&f)).toNat=d at b⊢;rw[iH,fY,<-cS (2^m),cJ (2^m) y.toNat,cS y.toNat,<-iB];have g:s*2^(m+c)+d*(2^(m+c)*2)=(s+2*d)*2^(m+c):=(by rw[bI,cJ (2^(m+c)) 2,<-cS,cJ d 2]);rw[fH,g,b,bI,bI];omega
theorem ahQ{b O:Nat->Bool}{A B:Nat->Bool}(h:vC b O A n c d f)(l:c+d=n+m)(o:c<m)(k:bv b (n+m)=bv A n*bv B c)(hb:B c=true):
 bv O (n+m)=bv A n*bv B (c+1):=by
 obtain⟨_,a⟩:=h;rw[l,bu A n d om,k] at a;have e:bv A n*bv B (c+1)=bv A n*bv B c+2^c*bv A n:=by simp only[bv,hb,Bool.toNat_true,dS];rw[fY,cJ (2^c)]
 rw[<-e] at a;have hl:bv A n*bv B (c+1)<2^(n+m):=by have j:=ao A n;have g:=ao B (c+1);have i:=Nat.mul_lt_mul_of_lt_of_le j (cZ g) (fX om);rw[<-iB] at i;exact aS i (dP om om)
 cases f
 . simpa using a
 . simp at a;omega
theorem alo{O:Nat->Bool}{A B:Nat->Bool}(a:bv O (n+m)=bv A n*bv B c)(hb:B c=false):bv O (n+m)=bv A n*bv B (c+1):=by
 simp[bv,hb,a]
theorem bv_add(T:Nat->Bool)(n m:Nat):bv T (n+m)=bv T n+2^n*bv (fun k=>T (n+k)) m:=by
 induction m with
 | zero=>simp[bv]
 | succ m ih=>
   have e:n+(m+1)=(n+m)+1:=om;rw[e];simp only[bv];rw[ih,iB,fY,fH,oO]
def rm(T:Nat->Bool)(q:Nat):Nat:=bv (fun k=>T (32*q+k)) 32
theorem aho(T:Nat->Bool)(n:Nat):rm T n<4294967296:=ao _ 32
theorem alv(T:Nat->Bool)(n:Nat):lv (rm T) n=bv T (32*n):=by
 induction n with
 | zero=>rfl
 | succ n ih=>rw[fY,bv_add];simp only[lv,ih,rm,cJ]
theorem vv(T:Nat->Bool)(n:Nat):bv T (n+1)=2*bv (fun k=>T (k+1)) n+(T 0).toNat:=by
 rw[jO n 1,bv_add];simp only[bv,Nat.pow_zero,iF,aZ,Nat.pow_one];rw[jO];congr 2;exact mr (fun j _=>by rw[jO])
theorem ajK(T:Nat->Bool)(n m:Nat)(f:32*m<n)(g:n<=32*(m+1))(d:T (n-1)=true):rm T m≠0:=by
 intro h;unfold rm at h;have e:∀j,bv (fun k=>T (32*m+k)) j=0->∀k,k<j->T (32*m+k)=false:=by
  intro j
  induction j with
  | zero=>intro _ k b;omega
  | succ j ih=>
    intro a k b;simp only[bv] at a;have i:0<2^j:=fX om;by_cases c:k=j
    . subst c;cases hT:T (32*m+k)
      . rfl
      . rw[hT] at a;simp at a
    . exact ih om k om
 have:=e 32 h (n-1-32*m) om;rw[show 32*m+(n-1-32*m)=n-1 by omega,d] at this;cases this
def lq(x y:Nat):Int:=if x<y then-1 else if y<x then 1 else 0
theorem uh(h:n<m):lq n m=-1:=by simp[lq,h]
theorem yU(h:m<n):lq n m=1:=by simp[lq,h];omega
theorem ep(h:n=m):lq n m=0:=by simp[lq,h]
theorem aoz(B:Nat->Bool)(n:Nat)(h:0<n)(a:B (n-1)=true):2^(n-1)<=bv B n:=by
 obtain⟨m,rfl⟩:∃m,n=m+1:=⟨n-1,om⟩;simp only[bv,cF] at*;simp[a]
theorem vt{A B:Nat->Bool}(h:n<m)(a:0<m->B (m-1)=true):bv A n<bv B m:=by
 have b:=ao A n;have c:=aoz B m om (a om);have d:2^n<=2^(m-1):=dP om om;omega
theorem cX{A B:Nat->Bool}(a:0<n->A (n-1)=true)(h:bv A n<=bv B m):n<=m:=by
 by_cases e:n<=m
 . exact e
 . have:=vt (A:=B) (B:=A) (n:=m) (m:=n) om a;omega
theorem am0{A B:Nat->Bool}(d:i<n)(h:∀j,i<j->j<n->A j=B j)(b:A i=false)(hb:B i=true):bv A n<bv B n:=by
 induction n with
 | zero=>omega
 | succ n ih=>
   by_cases e:i=n
   . subst e;simp only[bv,b,hb];have:=ao A i;simp;omega
   . have:=ih om (fun j a c=>h j a om);simp only[bv];rw[h n om om];omega
theorem alt(hl:∀j,j<n->X j<4294967296)(f:i<n)(h:∀j,i<j->j<n->X j=Y j)(d:X i<Y i):lv X n<lv Y n:=by
 induction n with
 | zero=>omega
 | succ n ih=>
   by_cases e:i=n
   . subst e;simp only[lv];have a:=kI X i (fun j c=>hl j om);have b:(X i+1)*2^(32*i)<=Y i*2^(32*i):=aP _ d;rw[bI] at b;omega
   . have:=ih (fun j c=>hl j om) om (fun j a b=>h j a om);simp only[lv];rw[h n om om];omega
theorem ve{A B:Nat->Nat}(hl:∀j,j<n->A j<4294967296)(h:n<m)(a:0<m->B (m-1)≠0):lv A n<lv B m:=by
 have b:=kI A n hl;have c:=rj B m om (a om);have d:2^(32*n)<=2^(32*(m-1)):=dP om om;omega
theorem alY(f F c:Bool):((f != F) != c).toNat+F.toNat+c.toNat=f.toNat+2*((!f&&F) ||(!f&&c) ||(F&&c)).toNat:=by
 cases f<;>cases F<;>cases c<;>rfl
def mN{α:Type}(D:Nat->α)(i:Nat)(v:α):Nat->α:=fun k=>if k=i then v else D k
theorem fR{α:Type}(D:Nat->α)(n:Nat)(v:α):mN D n v n=v:=by simp[mN]
theorem eT{α:Type}(D:Nat->α)(n:Nat)(v:α)(m:Nat)(h:m≠n):mN D n v m=D m:=by simp[mN,h]
theorem eW(D:Nat->Bool)(n:Nat)(f:Bool)(m:Nat)(h:m<=n):bv (mN D n f) m=bv D m:=mr (fun j a=>eT _ _ _ _ om)
theorem cN(X:Nat->Nat)(n:Nat)(m:Nat)(c:Nat)(h:c<=n):lv (mN X n m) c=lv X c:=jS (fun j a=>eT _ _ _ _ om)
def bj(D A B:Nat->Bool)(m i:Nat)(c:Bool):Prop:=bv D i+bv (ext B m) i=bv A i+c.toNat*2^i
theorem aay{D A B:Nat->Bool}{y:Bool}(h:bj D A B n m f)(b:A m=F)(c:ext B n m=y):
 bj (mN D m ((F != y) != f)) A B n (m+1) ((!F&&y) ||(!F&&f) ||(y&&f)):=by
 unfold bj at*;have a:=alY F y f;simp only[bv,eW D m _ m zR,fR,b,c];generalize ((F != y) != f).toNat=s at a⊢;generalize ((!F&&y) ||(!F&&f) ||(y&&f)).toNat=d at a⊢;have e:s*2^m+y.toNat*2^m+f.toNat*2^m=F.toNat*2^m+d*2^(m+1):=by rw[<-bI,<-bI,a,bI,iH,cJ (2^m) 2,<-cS,cJ d 2]
 omega
theorem agJ{D A B:Nat->Bool}(h:bj D A B m n f)(a:m<=n)(b:bv B m<=bv A n):bv D n=bv A n-bv B m:=by
 unfold bj at h;rw[bu B m n a] at h;cases f
 . simp at h;omega
 . have:=ao D n;simp at h;omega
def hb(A:Nat->Bool)(i n:Nat):Nat:=bv (fun t=>A (i+t)) (n-i)
theorem apg(A:Nat->Bool)(n:Nat):hb A n n=0:=by simp[hb,bv]
theorem aiA(A:Nat->Bool)(n:Nat):hb A 0 n=bv A n:=by simp[hb]
theorem cj(A:Nat->Bool)(n m:Nat)(h:n<m):hb A n m=2*hb A (n+1) m+(A n).toNat:=by
 unfold hb;rw[show m-n=(m-(n+1))+1 by omega,vv];congr 2;exact mr (fun j _=>by rw[show n+(j+1)=n+1+j by omega])
theorem alR{A B:Nat->Bool}(h:∀j,n<=j->j<m->A j=B j):hb A n m=hb B n m:=mr (fun j a=>h _ om om)
def un(A Q:Nat->Bool)(n i D R:Nat):Prop:=hb A i n=hb Q i n*D+R/\R<D/\∀j,j<i->Q j=false
theorem ae7(A:Nat->Bool)(n m:Nat)(a:0<m):un A (fun _=>false) n n m 0:=⟨by simp[apg],a,fun _ _=>rfl⟩
theorem ahE{A Q:Nat->Bool}(h:un A Q n (m+1) c d)(b:m<n)(f:c<=(A m).toNat+2*d):un A (mN Q m true) n m c ((A m).toNat+2*d-c):=by
 obtain⟨i,e,k⟩:=h;refine⟨?_, ?_,fun j g=>by rw[eT _ _ _ _ om];exact k j om⟩
 . rw[cj A m n b,cj _ m n b,fR,i,alR (fun j a _=>eT Q m true j om)];rw[bI,fY,Bool.toNat_true,dS,<-cS 2];omega
 . have:=(A m).toNat_le;omega
theorem adb{A Q:Nat->Bool}(h:un A Q n (m+1) c d)(b:m<n)(k:(A m).toNat+2*d<c):un A Q n m c ((A m).toNat+2*d):=by
 obtain⟨i,f,a⟩:=h;refine⟨?_,k,fun j g=>a j om⟩;have e:(2*hb Q (m+1) n+false.toNat)*c=2*(hb Q (m+1) n*c):=by simp[cS]
 rw[cj A m n b,cj _ m n b,a m om,e,i];omega
theorem ahF{A Q:Nat->Bool}(h:un A Q n 0 m c):bv Q n=bv A n/m/\c=bv A n % m:=by
 obtain⟨b,a,_⟩:=h;rw[aiA,aiA] at b;have d:0<m:=om;have e:bv A n=c+bv Q n*m:=om;rw[e];refine⟨?_, ?_⟩
 . rw[oC _ _ d,iI a,aZ]
 . rw[qR,iC a]
def push(b:Bool)(R:Nat->Bool):Nat->Bool:=fun j=>if j=0 then b else R (j-1)
theorem anR(f:Bool)(R:Nat->Bool)(n:Nat):bv (push f R) (n+1)=f.toNat+2*bv R n:=by
 rw[vv,jO];rfl
theorem eL(X:Nat->Nat)(n m:Nat):lv X (n+m)=lv X n+2^(32*n)*lv (fun k=>X (n+k)) m:=by
 induction m with
 | zero=>simp[lv]
 | succ m ih=>
   have e:n+(m+1)=(n+m)+1:=om;rw[e];simp only[lv];rw[ih,fY 32,iB,fY,fH,oO]
theorem af6(X:Nat->Nat)(n:Nat):lv X (n+1)=4294967296*lv (fun k=>X (k+1)) n+X 0:=by
 rw[jO n 1,eL];simp only[lv,sJ,Nat.pow_zero,iF,aZ];rw[jO];congr 2;exact jS (fun j _=>by rw[jO])
def hl(X:Nat->Nat)(i n:Nat):Nat:=lv (fun t=>X (i+t)) (n-i)
theorem cR(X:Nat->Nat)(n:Nat):hl X n n=0:=by simp[hl,lv]
theorem yF(X:Nat->Nat)(n:Nat):hl X 0 n=lv X n:=by simp[hl]
theorem vY(X:Nat->Nat)(n m:Nat)(h:n<m):hl X n m=4294967296*hl X (n+1) m+X n:=by
 unfold hl;rw[show m-n=(m-(n+1))+1 by omega,af6];congr 2;exact jS (fun j _=>by rw[show n+(j+1)=n+1+j by omega])
theorem agc(h:∀j,n<=j->j<m->X j=Y j):hl X n m=hl Y n m:=jS (fun j a=>h _ om om)
def zk(X Q:Nat->Nat)(n i d r:Nat):Prop:=hl X i n=hl Q i n*d+r/\r<d/\(∀j,j<i->Q j=X j)/\∀j,j<n->Q j<4294967296
theorem acT(b:0<m)(a:∀j,j<n->X j<4294967296):zk X X n n m 0:=⟨by simp[cR],b,fun _ _=>rfl,a⟩
theorem aes(h:zk X Y n (m+1) c d)(i:m<n)(p:X m<4294967296):
 zk X (mN Y m ((d*4294967296+X m)/c)) n m c ((d*4294967296+X m) % c)/\(d*4294967296+X m)/c<4294967296:=by
 obtain⟨k,l,r,o⟩:=h;have b:0<c:=om;have g:(d*4294967296+X m)/c<4294967296:=by rw[gJ b];have:(d+1)*4294967296<=c*4294967296:=aP _ l;omega
 refine⟨⟨?_,iS _ b,fun j f=>by rw[eT _ _ _ _ om];exact r j om,fun j f=> ?_⟩,g⟩
 . rw[vY X m n i,vY _ m n i,fR,k,agc (fun j a _=>eT Y m _ j om)];generalize hl Y (m+1) n=q;have e:=iW (d*4294967296+X m) c;rw[bI,cJ ((d*4294967296+X m)/c) c,cS 4294967296];omega
 . by_cases e:j=m
   . subst e;rw[fR];exact g
   . rw[eT _ _ _ _ e];exact o j f
theorem afE(h:zk X Y n 0 m c):lv Y n=lv X n/m/\c=lv X n % m:=by
 obtain⟨b,a,_⟩:=h;rw[yF,yF] at b;have d:0<m:=om;have e:lv X n=c+lv Y n*m:=om;rw[e];refine⟨?_, ?_⟩
 . rw[oC _ _ d,iI a,aZ]
 . rw[qR,iC a]
theorem aoR(n m c:Nat)(d:m % 2^n=0)(b:c<2^n):c ||| m=m+c:=by
 have a:m=2^n*(m/2^n):=by have:=iW m (2^n);omega
 rw[Nat.or_comm,a,<-qL b (m/2^n)]
theorem uT(n:Nat)(a:n<=32):2^n<=4294967296:=by
 have:2^n<=2^32:=dP om a;omega
theorem vT(n:Nat)(a:n<=32):2^n*2^(32-n)=4294967296:=by
 rw[<-iB,show n+(32-n)=32 by omega]
theorem aiz(n m:Nat)(a:m<=32):(n*2^m % 4294967296) % 2^m=0:=by
 rw[<-vT m a,Nat.mod_mul_right_mod];exact Nat.mul_mod_left _ _
theorem an8(n m:Nat)(a:n<4294967296):n*2^m/4294967296<2^m:=by
 rw[gJ om,cJ];exact Nat.mul_lt_mul_of_pos_left a (fX om)
theorem alz(n m c:Nat)(a:m<=32)(i:c<2^m):n*2^m % 4294967296+c<4294967296:=by
 have f:n*2^m % 4294967296<4294967296:=iS _ om;have b:=aiz n m a;have g:=vT m a;have j:=iW (n*2^m % 4294967296) (2^m);rw[b,fV] at j;generalize n*2^m % 4294967296=l at*;generalize l/2^m=q at*;have e:q<2^(32-m):=by
  by_cases h:q<2^(32-m)
  . exact h
  . have:2^m*2^(32-m)<=2^m*q:=dE _ om;omega
 have d:2^m*(q+1)<=2^m*2^(32-m):=dE _ e;rw[fY] at d;omega
def c0(X S:Nat->Nat)(whole p i:Nat):Prop:=lv S (i+whole+1)=lv X i*2^(32*whole+p)/\S (i+whole)<2^p/\∀k,S k<4294967296
theorem aeb(X:Nat->Nat)(n m:Nat):c0 X (fun _=>0) n m 0:=
 ⟨by rw[yt (fun _=>0) 0 (0+n+1) om (fun _ _ _=>rfl)];simp[lv],fX om,fun _=>by show 0<_;omega⟩
theorem afm(h:c0 X Y n m c)(o:m<32)(p:X c<4294967296):
 c0 X (mN (mN Y (c+n) (X c*2^m % 4294967296+Y (c+n))) (c+n+1) (X c*2^m/4294967296)) n m (c+1):=by
 obtain⟨f,g,j⟩:=h;have i:=alz (X c) m _ om g;have l:=an8 (X c) m p;have q:=uT m om;refine⟨?_, ?_,fun k=> ?_⟩
 . have e:c+1+n+1=(c+n+1)+1:=om;rw[e];simp only[lv,fR];rw[cN _ _ _ _ om,cN _ _ _ _ om,eT _ _ _ _ om,fR];simp only[lv] at f;rw[bI (X c*2^m % 4294967296),qt];have b:X c*2^m % 4294967296*2^(32*(c+n))+X c*2^m/4294967296*(4294967296*2^(32*(c+n)))=X c*2^m*2^(32*(c+n)):=by
    rw[<-cS,<-bI];congr 1;omega
   have d:(lv X c+X c*2^(32*c))*2^(32*n+m)=lv X c*2^(32*n+m)+X c*2^m*2^(32*(c+n)):=(by rw[bI,cS (X c),cS (X c),<-iB,<-iB,show 32*c+(32*n+m)=m+32*(c+n) by omega]);rw[d];omega
 . rw[show c+1+n=c+n+1 by omega,fR];exact l
 . by_cases a:k=c+n+1
   . subst a;rw[fR];omega
   . rw[eT _ _ _ _ a];by_cases b:k=c+n
     . subst b;rw[fR];exact i
     . rw[eT _ _ _ _ b];exact j k
theorem apb(X:Nat->Nat)(n m:Nat)(h:m<=n)(b:∀j,j<n->X j<4294967296):lv (fun t=>X (m+t)) (n-m)=lv X n/2^(32*m):=by
 have e:=eL X m (n-m);rw[show m+(n-m)=n by omega] at e;rw[e,Nat.add_mul_div_left _ _ (fX om),iI (kI X m (fun j c=>b j om)),aZ]
def pj(X:Nat->Nat)(n p j:Nat):Nat:=((X j+(if j+1<n then X (j+1) else 0)*4294967296)/2^p) % 4294967296
theorem agN(X:Nat->Nat)(n m c:Nat):pj X n m c<4294967296:=iS _ om
theorem apf(X:Nat->Nat)(n m c:Nat)(C:m<32)(B:c<=n)(g:∀j,j<n->X j<4294967296):hl (pj X n m) c n=hl X c n/2^m:=by
 obtain⟨d,A⟩:∃d,d=n-c:=⟨_,rfl⟩
 induction d generalizing c with
 | zero=>
   have e:c=n:=om;subst e;simp[cR]
 | succ d ih=>
   have f:c<n:=om;rw[vY _ c n f,vY X c n f,ih (c+1) om om];have b:=vT m om;have i:0<2^m:=fX om;have D:0<2^(32-m):=fX om;have t:=g c f;have q:hl X (c+1) n % 4294967296=(if c+1<n then X (c+1) else 0):=by
    by_cases a:c+1<n
    . rw[aY a,vY X (c+1) n a];have:=g (c+1) a;omega
    . rw[aM a,show c+1=n by omega,cR]
   unfold pj;rw[<-q];generalize hl X (c+1) n=H at*;generalize X c=x at*;generalize y:2^m=P at*;generalize z:2^(32-m)=Q at*;have u:(4294967296*H+x)/P=Q*H+x/P:=(by rw[<-b,cS,dQ i]);have v:(x+H % 4294967296*4294967296)/P=x/P+Q*(H % 4294967296):=(by rw[cJ (H % 4294967296),<-b,cS,jO,dQ i,jO]);rw[u,v];have E:x/P<Q:=(by rw[gJ i,cJ,b];exact t);have w:H=4294967296*(H/4294967296)+H % 4294967296:=(iW _ _).symm;have k:Q*H=4294967296*(H/P)+Q*(H % P):=(by have h:=iW H P;have a:Q*H=Q*(P*(H/P)+H % P):=(by rw[h]);rw[a,fY,<-cS,cJ Q P,b]);have l:(x/P+Q*(H % 4294967296)) % 4294967296=x/P+Q*(H % P):=(by have s:H % 4294967296 % P=H % P:=(by rw[<-b];exact Nat.mod_mul_right_mod _ _ _);have h:=iW (H % 4294967296) P;rw[s] at h;have a:Q*(H % 4294967296)=4294967296*(H % 4294967296/P)+Q*(H % P):=(by have p:Q*(H % 4294967296)=Q*(P*(H % 4294967296/P)+H % P):=(by rw[h]);rw[p,fY,<-cS,cJ Q P,b]);have r:x/P+Q*(H % P)<4294967296:=(by have o:Q*(H % P+1)<=Q*P:=dE _ (iS _ i);rw[fY,cJ Q P,b] at o;omega);rw[a,show x/P+(4294967296*(H % 4294967296/P)+Q*(H % P))=(x/P+Q*(H % P))+4294967296*(H % 4294967296/P) by omega,Nat.add_mul_mod_self_left,iC r]);rw[k,l];omega
theorem ahh(X:Nat->Nat)(n m:Nat)(b:m<32)(a:∀j,j<n->X j<4294967296):lv (pj X n m) n=lv X n/2^m:=by
 have:=apf X n m 0 b (aJ _) a;rwa[yF,yF] at this
def pJ(u0 u1 u2 v1 v2:Nat):Nat:=min (((u0*4294967296+u1)*4294967296+u2)/(v1*4294967296+v2)) 4294967295
theorem adK(n m c d k:Nat):pJ n m c d k<=4294967295:=Nat.min_le_right _ _
theorem xd(n m c d k:Nat):pJ n m c d k<=((n*4294967296+m)*4294967296+c)/(d*4294967296+k):=by
 unfold pJ;exact Nat.min_le_left _ _
def qU(u0 u1 u2 v1 v2 g r:Nat):Prop:=g*v1+r=u0*4294967296+u1/\pJ u0 u1 u2 v1 v2<=g
theorem anH{l n m v2:Nat}(a:0<m)(c:n<4294967296):(l*4294967296+n)/(m*4294967296+v2)<=l/m:=by
 rw[kR a];have b:=oT (l*4294967296+n) (m*4294967296+v2);generalize (l*4294967296+n)/(m*4294967296+v2)=q at*;rw[fY,<-cS] at b;omega
theorem agd{u0 u1 n m v2:Nat}(d:0<m)(e:n<4294967296):qU u0 u1 n m v2 ((u0*4294967296+u1)/m) ((u0*4294967296+u1) % m):=by
 have a:=xd u0 u1 n m v2;have b:=anH (l:=u0*4294967296+u1) (v2:=v2) d e;have c:=iW (u0*4294967296+u1) m;rw[cJ] at c;exact⟨c,aU a b⟩
theorem ah8(h:i*d+j=n*4294967296+m)(e:0<d)(a:i<=4294967295)(b:i*k<=j*4294967296+c):i<=pJ n m c d k:=by
 refine Nat.le_min.2 ⟨?_,a⟩;rw[kR om,<-h,fY,<-cS];omega
theorem ala(b:d*4294967296+k<n*c):(n*m+d)*4294967296+k<n*(m*4294967296+c):=by
 have e:n*(m*4294967296+c)=n*m*4294967296+n*c:=by rw[fY n,<-cS n]
 rw[e,bI (n*m) d,fH];exact Nat.add_lt_add_left b _
theorem ah7(h:i*d+j=n*4294967296+m)(b:4294967295<i∨j*4294967296+c<i*k):pJ n m c d k<i:=by
 rcases b with b | b
 . have:=adK n m c d k;omega
 . have a:=xd n m c d k;rw[<-h] at a;have f:0<d*4294967296+k:=by
    by_cases e:k=0
    . subst e;simp at b
    . omega
   exact dD a ((gJ f).2 (ala b))
theorem acr(h:qU n m c d k i j)(e:4294967295<i∨j*4294967296+c<i*k):1<=i/\qU n m c d k (i-1) (j+d):=by
 have:=ah7 h.1 e;refine⟨om, ?_,om⟩;have b:=h.1;obtain⟨a,rfl⟩:∃a,i=a+1:=⟨i-1,om⟩;rw[bI] at b;simp only[cF];omega
theorem acq(h:qU n m c d k i j)(e:0<d)(a:i<=4294967295)(b:i*k<=j*4294967296+c):i=pJ n m c d k:=
 Nat.le_antisymm (ah8 h.1 e a b) h.2
theorem aaE(h:qU n m c d k i j)(b:0<d)(r:k<4294967296)(p:n<=d)(q:m<4294967296)(o:4294967295<j):i<=4294967295/\i=pJ n m c d k:=by
 have a:i<=4294967295:=by
  by_cases e:i<=4294967295
  . exact e
  . have f:=h.1;have g:4294967296*d<=i*d:=aP _ om;omega
 refine⟨a,acq h b a ?_⟩;have l:i*k<=4294967295*4294967295:=dF a om;omega
theorem age(h:qU n m c d k i j)(l:2147483648<=d)(f:n<=d)(g:m<4294967296):i<=8589934592:=by
 have a:=h.1;by_cases e:i<=8589934592
 . exact e
 . have b:8589934593*d<=i*d:=aP _ om;omega
theorem ah6{n m U3 D2 P c:Nat}(t:0<P)(u:U3*P<=n/\n<(U3+1)*P)(d:D2*P<=m/\m<(D2+1)*P)(s:4294967296<=D2)(o:n<m*4294967296)
 (b:c=min (U3/D2) 4294967295):n/m<=c/\c<=n/m+1:=by
 have e:0<m:=by have:1*P<=D2*P:=aP _ om;omega
 have w:=oT n m;have x:n<(n/m+1)*m:=by have:=Nat.lt_div_mul_add e (a:=n);rw[bI,dS];exact this
 have y:n/m<4294967296:=by rw[gJ e,cJ];exact o
 generalize n/m=q at*;constructor
 . rw[b];refine Nat.le_min.2 ⟨?_,om⟩;rw[kR om];have a:q*D2*P<=q*m:=(by rw[cS];exact dE _ d.1);have j:q*D2*P<(U3+1)*P:=om;have:=Nat.lt_of_mul_lt_mul_right j;omega
 . by_cases g:c<=q+1
   . exact g
   . exfalso;have v:c<=4294967295:=(by rw[b];exact Nat.min_le_right _ _);have l:c*D2<=U3:=(by have a:c<=U3/D2:=(by rw[b];exact Nat.min_le_left _ _);exact aU (aP _ a) (oT _ _));have p:c*D2*P<=U3*P:=aP _ l;obtain⟨k,z⟩:∃k,c=k+1:=⟨c-1,om⟩;have r:(q+1)*m<=k*m:=aP _ om;have f:k*m<=k*((D2+1)*P):=dE _ (cZ d.2);rw[<-cS] at f;have h:c*D2*P<k*(D2+1)*P:=om;have i:=Nat.lt_of_mul_lt_mul_right h;rw[z,bI,fY,iF,dS] at i;omega
def zj(W0 W Y:Nat->Nat)(g p i owed:Nat):Prop:=
 lv (fun t=>W (p+t)) i+g*lv Y i=lv (fun t=>W0 (p+t)) i+owed*2^(32*i)/\owed<=4294967295/\(∀k,k<p∨p+i<=k->W k=W0 k)/\∀k,W k<4294967296
theorem agD(a:∀k,X k<4294967296)(Y:Nat->Nat)(n m:Nat):zj X X Y n m 0 0:=⟨by simp[lv],om,fun _ _=>rfl,a⟩
theorem aiY(h:zj X Y Z n m c d)(l:n<=4294967295)(C:Z c<4294967296)(p:k=n*Z c+d)(g:Y (m+c)=i):
 k<18446744073709551616/\
 zj X (mN Y (m+c) ((i+4294967296-k % 4294967296) % 4294967296)) Z n m (c+1) (k/4294967296+if i<k % 4294967296 then 1 else 0):=by
 obtain⟨v,w,b,f⟩:=h;have B:i<4294967296:=by rw[<-g];exact f _
 have y:n*Z c<=4294967295*4294967295:=dF l om;have q:X (m+c)=i:=by rw[<-g];exact (b (m+c) (Or.inr zR)).symm
 refine⟨om, ?_, ?_,fun a o=> ?_,fun a=> ?_⟩
 . have j:lv (fun t=>mN Y (m+c) ((i+4294967296-k % 4294967296) % 4294967296) (m+t)) c=lv (fun t=>Y (m+t)) c:=jS (fun a o=>eT _ _ _ _ om);simp only[lv,fR,j,q];rw[fY,qt,<-cS n];have x:n*Z c=k-d:=om;have z:d<=k:=om;generalize 2^(32*c)=P at*;generalize A:(i+4294967296-k % 4294967296) % 4294967296=s;have e:s+k=i+(k/4294967296+if i<k % 4294967296 then 1 else 0)*4294967296:=by
    split<;>omega
   have r:s*P+k*P=i*P+(k/4294967296+if i<k % 4294967296 then 1 else 0)*(4294967296*P):=(by rw[<-cS,<-bI,<-bI,e]);have u:n*Z c*P+d*P=k*P:=(by rw[<-bI,<-p]);omega
 . split<;>omega
 . rw[eT _ _ _ _ om];exact b a om
 . by_cases e:a=m+c
   . subst e;rw[fR];omega
   . rw[eT _ _ _ _ e];exact f a
theorem ak6(h:zj X Y Z n m c d)(f:Y (m+c)=k):
 lv (fun t=>mN Y (m+c) ((k+4294967296-d) % 4294967296) (m+t)) (c+1)+n*lv Z c=lv (fun t=>X (m+t)) (c+1)+(if k<d then 1 else 0)*2^(32*(c+1))/\
 (∀a,a<m∨m+c+1<=a->mN Y (m+c) ((k+4294967296-d) % 4294967296) a=X a)/\∀a,mN Y (m+c) ((k+4294967296-d) % 4294967296) a<4294967296:=by
 obtain⟨o,q,b,g⟩:=h;have u:k<4294967296:=by rw[<-f];exact g _
 have l:X (m+c)=k:=by rw[<-f];exact (b (m+c) (Or.inr zR)).symm
 refine⟨?_,fun a j=> ?_,fun a=> ?_⟩
 . have i:lv (fun t=>mN Y (m+c) ((k+4294967296-d) % 4294967296) (m+t)) c=lv (fun t=>Y (m+t)) c:=jS (fun a j=>eT _ _ _ _ om);simp only[lv,fR,i,l];rw[qt];generalize 2^(32*c)=P at*;generalize r:(k+4294967296-d) % 4294967296=s;have e:s+d=k+(if k<d then 1 else 0)*4294967296:=(by split<;>omega);have p:s*P+d*P=k*P+(if k<d then 1 else 0)*(4294967296*P):=(by rw[<-cS,<-bI,<-bI,e]);omega
 . rw[eT _ _ _ _ om];exact b a om
 . by_cases e:a=m+c
   . subst e;rw[fR];omega
   . rw[eT _ _ _ _ e];exact g a
def zp(W0 W Y:Nat->Nat)(p i c:Nat):Prop:=
 lv (fun t=>W (p+t)) i+c*2^(32*i)=lv (fun t=>W0 (p+t)) i+lv Y i/\c<=1/\(∀k,k<p∨p+i<=k->W k=W0 k)/\∀k,W k<4294967296
theorem ah9(a:∀k,X k<4294967296)(Y:Nat->Nat)(n:Nat):zp X X Y n 0 0:=⟨by simp[lv],om,fun _ _=>rfl,a⟩
theorem akb(h:zp X Y Z n m c)(u:Z m<4294967296)(f:Y (n+m)=k)(q:d=k+Z m+c):
 zp X (mN Y (n+m) (d % 4294967296)) Z n (m+1) (d/4294967296):=by
 obtain⟨s,o,b,i⟩:=h;have r:k<4294967296:=by rw[<-f];exact i _
 have l:X (n+m)=k:=by rw[<-f];exact (b (n+m) (Or.inr zR)).symm
 refine⟨?_,om,fun a j=> ?_,fun a=> ?_⟩
 . have g:lv (fun t=>mN Y (n+m) (d % 4294967296) (n+t)) m=lv (fun t=>Y (n+t)) m:=jS (fun a j=>eT _ _ _ _ om);simp only[lv,fR,g,l];rw[qt];generalize 2^(32*m)=P at*;have p:d % 4294967296*P+d/4294967296*(4294967296*P)=k*P+Z m*P+c*P:=by
    rw[<-cS,<-bI,<-bI,<-bI];congr 1;omega
   omega
 . rw[eT _ _ _ _ om];exact b a om
 . by_cases e:a=n+m
   . subst e;rw[fR];omega
   . rw[eT _ _ _ _ e];exact i a
theorem alS(h:zp X Y Z n m c)(f:Y (n+m)=d):
 lv (fun t=>mN Y (n+m) ((d+c) % 4294967296) (n+t)) (m+1)+(d+c)/4294967296*2^(32*(m+1))=lv (fun t=>X (n+t)) (m+1)+lv Z m/\
 (∀k,k<n∨n+m+1<=k->mN Y (n+m) ((d+c) % 4294967296) k=X k)/\(∀k,mN Y (n+m) ((d+c) % 4294967296) k<4294967296)/\(d+c)/4294967296<=1:=by
 obtain⟨p,o,b,a⟩:=h;have q:d<4294967296:=by rw[<-f];exact a _
 have j:X (n+m)=d:=by rw[<-f];exact (b (n+m) (Or.inr zR)).symm
 refine⟨?_,fun k i=> ?_,fun k=> ?_,om⟩
 . have g:lv (fun t=>mN Y (n+m) ((d+c) % 4294967296) (n+t)) m=lv (fun t=>Y (n+t)) m:=jS (fun k i=>eT _ _ _ _ om);simp only[lv,fR,g,j];rw[qt];generalize 2^(32*m)=P at*;have l:(d+c) % 4294967296*P+(d+c)/4294967296*(4294967296*P)=d*P+c*P:=by
    rw[<-cS,<-bI,<-bI];congr 1;omega
   omega
 . rw[eT _ _ _ _ om];exact b k om
 . by_cases e:k=n+m
   . subst e;rw[fR];omega
   . rw[eT _ _ _ _ e];exact a k
def um(N0 D dl L nn:Nat)(W Q:Nat->Nat)(k:Nat):Prop:=
 N0=hl Q k L*2^(32*k)*D+lv W (k+dl)/\lv (fun t=>W (k+t)) dl<D/\(∀j,k+dl<=j->j<nn->W j=0)/\(∀j,W j<4294967296)/\∀j,Q j<4294967296
def ur(W:Nat->Nat)(a n:Nat):Nat:=lv (fun t=>W (a+t)) n
theorem ew(h:∀j,X j<4294967296)(n m:Nat):ur X n m<2^(32*m):=kI _ _ (fun _ _=>h _)
theorem aiV(X:Nat->Nat)(n m:Nat):ur X n (m+1)=4294967296*ur X (n+1) m+X n:=by
 unfold ur;rw[af6];have e:lv (fun k=>X (n+(k+1))) m=lv (fun t=>X (n+1+t)) m:=jS (fun j _=>by rw[show n+(j+1)=n+1+j by omega]);rw[e];rfl
theorem als(X:Nat->Nat)(n m:Nat):lv X (n+m)=lv X n+2^(32*n)*ur X n m:=eL X n m
theorem ahk{W:Nat->Nat}{D dl L nn:Nat}(d:nn=L+dl)(h:0<dl)(c:∀j,W j<4294967296)(f:W (nn-1)=0)(b:2^(32*(dl-1))<=D):um (lv W nn) D dl L nn W (fun _=>0) L:=by
 refine⟨by rw[cR,d];simp, ?_,fun j a g=>by omega,c,fun _=>by show 0<_;omega⟩;obtain⟨e,rfl⟩:∃e,dl=e+1:=⟨dl-1,om⟩;simp only[cF] at b;have a:lv (fun t=>W (L+t)) (e+1)=lv (fun t=>W (L+t)) e:=by simp only[lv];rw[show L+e=nn-1 by omega,f];simp
 rw[a];exact aS (kI _ _ (fun j _=>c _)) b
theorem aa2(h:um n m c d k X Y (i+1)):ur X i (c+1)<m*4294967296:=by
 have a:=h.2.1;have b:=h.2.2.2.1 i;rw[aiV];have:4294967296*(ur X (i+1) c+1)<=4294967296*m:=dE _ a;rw[fY] at this;omega
theorem al0(h:um n m c d k X Y (i+1))(l:0<c)(f:m=lv Z c)(g:∀j,j<c->Z j<4294967296):X (i+c)<=Z (c-1):=by
 have b:ur X (i+1) c<m:=h.2.1;obtain⟨e,rfl⟩:∃e,c=e+1:=⟨c-1,om⟩;simp only[cF];by_cases o:X (i+(e+1))<=Z e
 . exact o
 . exfalso;unfold ur at b;rw[f] at b;simp only[lv] at b;rw[show i+1+e=i+(e+1) by omega] at b;have p:=kI Z e (fun j q=>g j om);have a:(Z e+1)*2^(32*e)<=X (i+(e+1))*2^(32*e):=aP _ om;rw[bI] at a;omega
theorem ahl{W:Nat->Nat}{a:Nat}(s:2<=n)(h:m=lv Y n)(x:∀j,j<n->Y j<4294967296)(l:∀j,W j<4294967296)(y:1<=Y (n-1))(k:ur W a (n+1)<m*4294967296):
 ur W a (n+1)/m<=pJ (W (a+n)) (W (a+n-1)) (W (a+n-2)) (Y (n-1)) (Y (n-2))/\
 pJ (W (a+n)) (W (a+n-1)) (W (a+n-2)) (Y (n-1)) (Y (n-2))<=ur W a (n+1)/m+1:=by
 obtain⟨e,rfl⟩:∃e,n=e+2:=⟨n-2,om⟩;have o:a+(e+2)-1=a+(e+1):=om;have p:a+(e+2)-2=a+e:=om;have b:e+2-1=e+1:=om;have q:e+2-2=e:=om;rw[b] at y;rw[o,p,b,q];have v:=kI (fun t=>W (a+t)) e (fun j _=>l _);have w:=kI Y e (fun j u=>x j om);have d:=qt e;have r:2^(32*(e+2))=4294967296*(4294967296*2^(32*e)):=by rw[qt (e+1),qt e]
 have g:ur W a (e+2+1)=lv (fun t=>W (a+t)) e+((W (a+(e+2))*4294967296+W (a+(e+1)))*4294967296+W (a+e))*2^(32*e):=by unfold ur;simp only[lv];rw[d,r];simp only[bI,cS];omega
 have f:m=lv Y e+(Y (e+1)*4294967296+Y e)*2^(32*e):=by rw[h];simp only[lv];rw[d];simp only[bI,cS];omega
 have i:0<2^(32*e):=fX om;have c:∀A:Nat,(A+1)*2^(32*e)=A*2^(32*e)+2^(32*e):=fun A=>by rw[bI A 1,dS]
 refine ah6 (U3:=(W (a+(e+2))*4294967296+W (a+(e+1)))*4294967296+W (a+e)) (D2:=Y (e+1)*4294967296+Y e) (P:=2^(32*e)) i ?_ ?_ om k rfl
 . rw[g];refine⟨om, ?_⟩;rw[c];omega
 . rw[f];refine⟨om, ?_⟩;rw[c];omega
theorem adA(h:um n m c d k X Z (i+1))(v:i<d)(G:m<=2^(32*c))(q:0<m)(g:j=ur X i (c+1)/m)(z:ur Y i (c+1)+j*m=ur X i (c+1))
 (f:∀b,b<i∨i+c+1<=b->Y b=X b)(x:∀b,Y b<4294967296):um n m c d k Y (mN Z i j) i/\j<4294967296:=by
 have u:=aa2 h;obtain⟨r,E,s,F,t⟩:=h;have D:j<4294967296:=by rw[g,gJ q,cJ];exact u
 have y:ur Y i (c+1)<m:=by have e:=iW (ur X i (c+1)) m;have K:=iS (ur X i (c+1)) q;rw[<-g,cJ] at e;omega
 have l:Y (i+c)=0:=by
  have e:ur Y i (c+1)=ur Y i c+Y (i+c)*2^(32*c):=rfl;by_cases A:Y (i+c)=0
  . exact A
  . have:1*2^(32*c)<=Y (i+c)*2^(32*c):=aP _ om;omega
 have I:ur Y i c=ur Y i (c+1):=by have e:ur Y i (c+1)=ur Y i c+Y (i+c)*2^(32*c):=rfl;rw[e,l];simp
 refine⟨⟨?_, ?_,fun a B C=> ?_,x,fun a=> ?_⟩,D⟩
 . rw[r,vY _ i d v,fR,agc (fun a B _=>eT Z i j a om)];have o:lv X (i+1+c)=lv X i+2^(32*i)*ur X i (c+1):=by
    rw[show i+1+c=i+(c+1) by omega];exact als X i (c+1)
   have p:lv Y (i+c)=lv X i+2^(32*i)*ur Y i c:=(by rw[als Y i c,jS (fun a w=>f a (Or.inl w))]);rw[o,p,I,<-z,qt];generalize hl Z (i+1) d=H;generalize 2^(32*i)=P;generalize ur Y i (c+1)=R;rw[fY P,bI,bI,oO P j m,<-cS H,cJ H 4294967296,<-cS j P m];omega
 . show ur Y i c<m;rw[I];exact y
 . by_cases e:a=i+c
   . subst e;exact l
   . rw[f a om];exact s a om C
 . by_cases e:a=i
   . subst e;rw[fR];exact D
   . rw[eT _ _ _ _ e];exact t a
theorem al1(h:um n m c d k X Y 0)(l:c<=k):lv Y d=n/m/\lv X k=n % m:=by
 obtain⟨f,o,i,q,r⟩:=h;rw[yF,sJ,Nat.pow_zero,iF,aZ] at f;have g:lv (fun t=>X (0+t)) c=lv X c:=jS (fun j _=>by rw[aZ]);rw[g] at o;have e:=yt X c k l (fun j a b=>i j om b);have p:0<m:=om;rw[e,f,jO];refine⟨?_, ?_⟩
 . rw[oC _ _ p,iI o,aZ]
 . rw[qR,iC o]
theorem agE(a:0<m)(h:d+c*m=n)(b:n/m<=c):c=n/m:=by
 have:c<=n/m:=by rw[kR a];omega
 omega
theorem aiZ{U n m V V2 c d:Nat}(b:0<n)(h:V+m*n=U+d)(f:V<d)(k:m<=U/n+1)(g:V2+c*d=V+n)(j:c<=1)(i:V2<d):1<=m/\m-1=U/n/\V2+(m-1)*n=U:=by
 have l:U/n<m:=by rw[gJ b];omega
 have e:m=U/n+1:=om;have o:=oT U n;generalize U/n=q at*;subst e;rw[bI,dS] at h;refine⟨om,om, ?_⟩;simp only[cF];have a:c=0∨c=1:=om;rcases a with rfl | rfl
 . omega
 . omega
theorem agO(c:m<32)(a:n*2^m<4294967296):(n+1)*2^m<=4294967296:=by
 have b:=vT m om;rw[<-b,cJ (n+1)];refine dE _ ?_;rw[<-b,cJ] at a;have:=Nat.lt_of_mul_lt_mul_left a;omega
theorem afl(x:0<n)(o:m<32)(B:∀j,j<n->X j<4294967296)(l:∀k,Y k<4294967296)(h:2147483648<=X (n-1)*2^m)(i:X (n-1)*2^m<4294967296)
 (p:lv Y (n+1)=lv X n*2^m):iy (nz Y) (n+1)=n/\lv Y n=lv X n*2^m/\2147483648<=Y (n-1)/\2^(32*(n-1))<=lv Y n/\lv Y n<=2^(32*n):=by
 obtain⟨e,rfl⟩:∃e,n=e+1:=⟨n-1,om⟩;simp only[cF] at*;have b:=agO o i;have z:=kI X e (fun j y=>B j om);have v:2147483648*2^(32*e)<=lv X (e+1)*2^m:=by
  have a:X e*2^m*2^(32*e)<=lv X (e+1)*2^m:=by simp only[lv];rw[rN];exact aP _ om
  exact aU (aP _ h) a
 have w:lv X (e+1)*2^m<2^(32*(e+1)):=by
  have a:lv X (e+1)<(X e+1)*2^(32*e):=by simp only[lv];rw[bI];omega
  have f:lv X (e+1)*2^m<(X e+1)*2^(32*e)*2^m:=jX a (fX om);rw[rN] at f;have u:(X e+1)*2^m*2^(32*e)<=4294967296*2^(32*e):=aP _ b;rw[qt];omega
 have d:Y (e+1)=0:=by
  by_cases c:Y (e+1)=0
  . exact c
  . have:1*2^(32*(e+1))<=Y (e+1)*2^(32*(e+1)):=aP _ om;have g:lv Y (e+1+1)=lv Y (e+1)+Y (e+1)*2^(32*(e+1)):=rfl;omega
 have q:lv Y (e+1)=lv X (e+1)*2^m:=by rw[<-p];show _=lv Y (e+1)+Y (e+1)*2^(32*(e+1));rw[d];simp
 have s:2147483648<=Y e:=by
  have A:=kI Y e (fun j _=>l j);have g:lv Y (e+1)=lv Y e+Y e*2^(32*e):=rfl;by_cases c:2147483648<=Y e
  . exact c
  . have:(Y e+1)*2^(32*e)<=2147483648*2^(32*e):=aP _ om;rw[bI] at this;omega
 refine⟨?_,q,s,om,om⟩;have r:nz Y (e+1)=false:=by simp[nz,d]
 have t:nz Y e=true:=by simp[nz];omega
 simp[iy,r,t]
def oP(S:Nat->Nat)(t:Nat):Nat->Nat:=fun j=>if j<t then S j else 0
theorem ako(n:Nat)(a:∀k,X k<4294967296):∀k,oP X n k<4294967296:=fun k=>by unfold oP;split;exact a k;omega
theorem xT(X:Nat->Nat)(n:Nat):oP X n n=0:=by simp[oP]
theorem ajD(X:Nat->Nat)(n:Nat):lv (oP X n) (n+1)=lv X n:=by
 simp only[lv,xT];rw[jS (fun j a=>show oP X n j=X j by simp[oP,a])];simp
theorem aid:n*2^c/(m*2^c)=n/m/\n*2^c % (m*2^c)/2^c=n % m:=by
 have a:0<2^c:=fX om;refine⟨kQ _ _ a, ?_⟩;rw[Nat.mul_mod_mul_right,Nat.mul_div_cancel _ a]
theorem akc(n m:Nat):Nat.gcd (2*n) (2*m)=2*Nat.gcd n m:=Nat.gcd_mul_left 2 n m
theorem cop2(h:n % 2=1):Nat.Coprime 2 n:=by
 unfold Nat.Coprime;rw[Nat.gcd_rec,h];rfl
theorem xe(h:m % 2=1):Nat.gcd (2*n) m=Nat.gcd n m:=Nat.Coprime.gcd_mul_left_cancel n (cop2 h)
theorem act(h:n % 2=1):Nat.gcd n (2*m)=Nat.gcd n m:=by rw[jN,xe h,jN]
theorem yH(h:m<=n):Nat.gcd (n-m) m=Nat.gcd n m:=by
 have e:n=(n-m)+m:=om;have c:=Nat.gcd_add_self_left m (n-m);rw[<-e] at c;exact c.symm
theorem acY(h:n<=m):Nat.gcd n (m-n)=Nat.gcd n m:=by rw[jN,yH h,jN]
def sh(A:Nat->Bool)(k:Nat):Nat->Bool:=fun j=>A (j+k)
theorem aoy(A:Nat->Bool)(n:Nat)(h:0<n):bv A n=2*bv (sh A 1) (n-1)+(A 0).toNat:=by
 obtain⟨m,rfl⟩:∃m,n=m+1:=⟨n-1,om⟩;rw[vv];rfl
theorem cy{A:Nat->Bool}(h:0<n)(a:A 0=false):bv A n=2*bv (sh A 1) (n-1):=by rw[aoy A n h,a];simp
theorem cW{A:Nat->Bool}(h:0<n)(a:A 0=true):bv A n % 2=1:=by rw[aoy A n h,a];simp
def uN(k:Nat)(B:Nat->Bool):Nat->Bool:=fun j=>if j<k then false else B (j-k)
theorem amz(n:Nat)(B:Nat->Bool)(m:Nat):bv (uN n B) (n+m)=2^n*bv B m:=by
 rw[bv_add];have a:bv (uN n B) n=0:=by rw[cx (uN n B) 0 n om (fun j _ c=>by simp[uN,c])];rfl
 have b:bv (fun j=>uN n B (n+j)) m=bv B m:=mr (fun j _=>by simp[uN]);rw[a,b];simp
structure Lp(A B:Nat)(r s u v x y:Nat)(e:Bool):Prop where
 er:if e then (r:Int)=u*A-x*B else (r:Int)=x*B-u*A
 es:if e then (s:Int)=y*B-v*A else (s:Int)=v*A-y*B
 dt:if e then (u*y:Int)-v*x=1 else (v*x:Int)-u*y=1
 hA:y*r+x*s=A
 y1:1<=y
 vy:v<=y
 hu:x≠0->u<=x/\1<=v
 x0:x=0->u=1/\v=0/\y=1/\e=true
 xy:x<=y
 sr:s<=r
theorem Lp.start(h:m<=n):Lp n m n m 1 0 0 1 true:=⟨qz,qz,qz,qz,om,om,qz,qz,om,h⟩
theorem Lp.step{n m c d k i j l:Nat}{f:Bool}(h:Lp n m c d k i j l f)(A:l<=d):
 Lp n m d (c % d) i (k+c/d*i) l (j+c/d*l) (!f):=by
 obtain⟨x,y,v,B,D,s,a,e,C,u⟩:=h;have g:=iW c d;have o:=iS c (show d>0 by omega);have r:1<=c/d:=(Nat.one_le_div_iff om).2 u;generalize c/d=q at*;generalize c % d=t at*;subst g;have p:i<=q*i:=fU _ r;have z:l<=q*l:=fU _ r;have w:q*i<=q*l:=dE _ s;constructor
 . cases f<;>simp_all
 . clear a e;cases f<;>simp_all<;>grind
 . clear a e;cases f<;>simp_all<;>grind
 . clear a e;grind
 . omega
 . by_cases b:j=0
   . obtain⟨rfl,rfl,rfl,-⟩:=e b;omega
   . have:=a b;omega
 . intro _;refine⟨s, ?_⟩;by_cases b:j=0
   . obtain⟨rfl,rfl,rfl,-⟩:=e b;omega
   . have:=(a b).2;omega
 . omega
 . omega
 . omega
def c3(N M u v x y:Nat)(odd:Bool):Prop:=
 x≠0->u<4294967296/\v<4294967296/\x<4294967296/\y<4294967296/\
  ∃G S,(if odd then G+u*N=x*M/\S+y*M=v*N else G+x*M=u*N/\S+v*N=y*M)/\S<=G/\G<=M/\Nat.gcd G S=Nat.gcd N M/\G+S<N+M
theorem aiB(a:n=l*c+j*d)(b:m=i*c+k*d)(f:∀e,e∣n->e∣m->e∣c/\e∣d):Nat.gcd c d=Nat.gcd n m:=by
 apply Nat.dvd_antisymm
 . apply Nat.dvd_gcd
   . rw[a];exact Nat.dvd_add (oR (jQ _ _) (kZ _ _)) (oR (jD _ _) (kZ _ _))
   . rw[b];exact Nat.dvd_add (oR (jQ _ _) (kZ _ _)) (oR (jD _ _) (kZ _ _))
 . have:=f _ (jQ n m) (jD n m);exact Nat.dvd_gcd this.1 this.2
theorem yL(b:n∣m)(e:n∣c)(h:d+i*c=k*m):n∣d:=by
 have a:n∣k*m:=oR b (kZ _ _);rw[<-h] at a;exact (Nat.dvd_add_iff_left (oR e (kZ _ _))).2 a
theorem bb(b:n*k<=c)(a:d<(m+1)*k)(h:(r:Int)=i*n-j*m)(g:j<=r):j*d<=i*c:=by
 have l:i*(n*k)<=i*c:=dE _ b;have o:j*d<=j*((m+1)*k):=dE _ (cZ a);have e:r+j*m=i*n:=om;have f:j*((m+1)*k)<=i*(n*k):=by
  have:j*((m+1)*k)=(j*m+j)*k:=by grind
  rw[this];have:i*(n*k)=(i*n)*k:=by grind
  rw[this];exact aP _ om
 omega
theorem aoa{N M G S u v x y:Nat}(c:(u*y:Int)-v*x=1)(f:G+x*M=u*N)(g:S+v*N=y*M):N=y*G+x*S/\M=v*G+u*S:=by
 have d:(G:Int)=u*N-x*M:=by have:((G+x*M:Nat):Int)=((u*N:Nat):Int):=(by rw[f]);simp at this;omega
 have e:(S:Int)=y*M-v*N:=by have:((S+v*N:Nat):Int)=((y*M:Nat):Int):=(by rw[g]);simp at this;omega
 have a:(N:Int)=y*G+x*S:=by
  have:(N:Int)=(u*y-v*x)*N:=by rw[c];omega
  rw[this,d,e];grind
 have b:(M:Int)=v*G+u*S:=by
  have:(M:Int)=(u*y-v*x)*M:=by rw[c];omega
  rw[this,d,e];grind
 exact⟨by exact_mod_cast a,by exact_mod_cast b⟩
theorem Lp.out{N M x:Nat}{e:Bool}(h:Lp n m d k i j x l e)(U:n<18446744073709551616)(t:n*c<=N)(w:N<(n+1)*c)(o:m*c<=M)(q:M<(m+1)*c)(W:0<N)
 (R:l<=k)(T:x+l<=d-k):c3 N M i j x l (!e):=by
 intro P;obtain⟨z,C,u,V,Q,vy,D,x0,xy,E⟩:=h;obtain⟨D,O⟩:=D P;have F:l<4294967296:=by apply tM;intro K;have:4294967296*4294967296<=l*d:=dF K om;have:=aJ (x*k);omega
 refine⟨om,om,om,F, ?_⟩;have v:∀G S,N=l*G+x*S->M=j*G+i*S->S<=G->G<=M/\G+S<N+M:=by
  intro G S a b p;have X:G<=l*G:=fU _ Q;have Y:G<=j*G:=fU _ O;have Z:S<=x*S:=fU _ om;by_cases A:G=0
  . subst A;have:S=0:=om;subst this;simp at a;omega
  . exact⟨om,om⟩
 cases e
 . simp at z C u⊢;have H:=bb o w om (show i<=d by omega);have I:=bb t q om (show l<=k by omega);have y:(i+j)*N<=(x+l)*M:=bb (r:=d-k) o w (by rw[Int.ofNat_sub E];grind) (show i+j<=d-k by omega);rw[bI,bI] at y;obtain⟨G,A⟩:∃G,G=x*M-i*N:=⟨_,rfl⟩;obtain⟨S,L⟩:∃S,S=j*N-l*M:=⟨_,rfl⟩;have f:G+i*N=x*M:=om;have g:S+l*M=j*N:=om
   obtain⟨a,b⟩:=(show N=l*G+x*S/\M=j*G+i*S by
    have h:=aoa (N:=M) (M:=N) (G:=G) (S:=S) (u:=x) (v:=l) (x:=i) (y:=j) (by rw[Int.mul_comm (x:Int),Int.mul_comm (l:Int)];exact u) f g;exact⟨h.2,h.1⟩)
   have p:S<=G:=om;exact⟨G,S,⟨f,g⟩,p,(v G S a b p).1,aiB a b (fun B r s=>⟨yL s r f,yL r s g⟩),(v G S a b p).2⟩
 . simp at z C u⊢;have H:=bb t q om (show x<=d by omega);have I:=bb o w om (show j<=k by omega);have y:(x+l)*M<=(i+j)*N:=bb (r:=d-k) t q (by rw[Int.ofNat_sub E];grind) (show x+l<=d-k by omega);rw[bI,bI] at y;obtain⟨G,A⟩:∃G,G=i*N-x*M:=⟨_,rfl⟩;obtain⟨S,L⟩:∃S,S=l*M-j*N:=⟨_,rfl⟩;have f:G+x*M=i*N:=om;have g:S+j*N=l*M:=om;obtain⟨a,b⟩:=aoa u f g;have p:S<=G:=om;exact⟨G,S,⟨f,g⟩,p,(v G S a b p).1,aiB a b (fun B r s=>⟨yL r s f,yL s r g⟩),(v G S a b p).2⟩
def Bal(a:Nat)(X:Nat->Nat)(b:Nat)(Y D:Nat->Nat)(i p q o:Nat):Prop:=
 a*lv X i+(q+o)*2^(32*i)=b*lv Y i+p*2^(32*i)+lv D i/\p<4294967296/\q<4294967296/\o<=1/\∀k,k<i->D k<4294967296
theorem wj(n:Nat)(X:Nat->Nat)(m:Nat)(Y Z:Nat->Nat):Bal n X m Y Z 0 0 0 0:=⟨by simp[lv],om,om,om,fun k c=>absurd c om⟩
theorem nt(b:n<4294967296)(d:m<4294967296)(a:c<4294967296):m*n+c<18446744073709551616:=by
 have:m*n<=4294967295*4294967295:=dF om om;omega
theorem yZ{E:Nat->Nat}{c k i j d o':Nat}(h:Bal n X m Y Z c k i j)(v:n<4294967296)(hb:m<4294967296)(A:X c<4294967296)(B:Y c<4294967296)(w:d<4294967296)(z:o'<=1)
 (g:∀a,a<c->E a=Z a)(o:E c=d)(e:(X c*n+k) % 4294967296+o'*4294967296=(Y c*m+i) % 4294967296+j+d):
 Bal n X m Y E (c+1) ((X c*n+k)/4294967296) ((Y c*m+i)/4294967296) o':=by
 obtain⟨p,q,s,M,u⟩:=h;have K:=nt v A q;have L:=nt hb B s;refine⟨?_,om,om,z,fun a N=> ?_⟩
 . simp only[lv,o,jS g];rw[qt];have T:=iW (X c*n+k) 4294967296;have U:=iW (Y c*m+i) 4294967296;generalize (X c*n+k)/4294967296=P at*;generalize (Y c*m+i)/4294967296=Q at*;generalize (X c*n+k) % 4294967296=r at*;generalize (Y c*m+i) % 4294967296=t at*;generalize 2^(32*c)=W at*;generalize X c=x at*;generalize Y c=y at*;generalize lv X c=b at*;generalize lv Y c=f at*;generalize lv Z c=I at*;have G:x*n+k+(Q+o')*4294967296=y*m+i+j+P*4294967296+d:=om;have H:(x*n+k+(Q+o')*4294967296)*W=(y*m+i+j+P*4294967296+d)*W:=(by rw[G]);have C:n*(b+x*W)=n*b+x*n*W:=(by grind);have F:m*(f+y*W)=m*f+y*m*W:=(by grind);rw[C,F];simp only[bI] at p H⊢;have O:Q*(4294967296*W)=Q*4294967296*W:=(by grind);have R:o'*(4294967296*W)=o'*4294967296*W:=(by grind);have S:P*(4294967296*W)=P*4294967296*W:=(by grind);omega
 . by_cases l:a=c
   . subst l;rw[o];exact w
   . rw[g a om];exact u a om
theorem aiO(h:Bal n X m Y Z c d k i)(e:j+m*lv Y c=n*lv X c)(r:j<2^(32*c)):lv Z c=j:=by
 obtain⟨a,p,q,l,b⟩:=h;have s:=kI Z c b;generalize 2^(32*c)=W at*;generalize lv Z c=L at*;generalize n*lv X c=g at*;generalize m*lv Y c=o at*;rcases kD d (k+i) with hl | f | hl
 . have:(d+1)*W<=(k+i)*W:=aP _ hl;rw[bI] at this;omega
 . rw[f] at a;omega
 . have:(k+i+1)*W<=d*W:=aP _ hl;rw[bI] at this;omega
theorem owe(c:r<4294967296)(e:t<4294967296)(b:o<=1):∃d a,d<4294967296/\a<=1/\r+a*4294967296=t+o+d/\(((r:Int)-t-o) % 18446744073709551616/9223372036854775808=a)/\((r:Int)-t-o) % 18446744073709551616 % 4294967296=d:=by
 by_cases h:t+o<=r
 . exact⟨r-t-o,0,om,om,om,om,om⟩
 . exact⟨r+4294967296-t-o,1,om,om,om,om,om⟩
theorem dY(X:Nat->Nat)(n m:Nat)(N:3<=n)(e:∀j,j<n->X j<4294967296)(O:m<32)(x:X (n-1)*2^m<4294967296):
 ∃A,A=(X (n-1)*4294967296+X (n-2))*2^m+X (n-3)*2^m/4294967296/\A<18446744073709551616/\(X (n-1)*4294967296+X (n-2))*2^m<18446744073709551616/\X (n-3)*2^m/4294967296<2^m/\
  A*2^(32*(n-3)+(32-m))<=lv X n/\lv X n<(A+1)*2^(32*(n-3)+(32-m))/\A=lv X n/2^(32*(n-3)+(32-m)):=by
 obtain⟨k,rfl⟩:∃k,n=k+3:=⟨n-3,om⟩;have i:k+3-1=k+2:=om;have q:k+3-2=k+1:=om;have t:k+3-3=k:=om;rw[i] at x;rw[i,q,t];have hl:=kI X k (fun j M=>e j om);have y:lv X (k+3)=((X (k+2)*4294967296+X (k+1))*4294967296+X k)*2^(32*k)+lv X k:=by simp only[lv];rw[show 32*(k+2)=32*(k+1+1) by omega,qt,qt];grind
 have L:X (k+2)<4294967296:=e _ om;have K:X (k+1)<4294967296:=e _ om;have u:X k<4294967296:=e _ om;generalize X (k+2)=b at*;generalize X (k+1)=c at*;generalize X k=d at*;have w:2^(32*k+(32-m))=2^(32-m)*2^(32*k):=by rw[iB,cJ]
 have l:2^(32-m)*2^m=4294967296:=by rw[<-iB,show 32-m+m=32 by omega]
 have o:0<2^m:=fX om;have a:0<2^(32-m):=fX om;have P:2^m<=2147483648:=aU (dP om (show m<=31 by omega)) qd;rw[w,y];generalize lv X k=r at*;generalize 2^(32*k)=W at*;generalize 2^(32-m)=R at*;generalize 2^m=T at*;have z:d*T/4294967296<T:=by rw[gJ om,cJ T];exact jX u o
 have B:d*T/4294967296=d/R:=by rw[<-l,kQ _ _ o]
 have v:(b*4294967296+c)*T<18446744073709551616:=by
  have D:b*T<=4294967295:=om;have E:(b*4294967296+c)*T<=b*T*4294967296+4294967295*T:=by have:(b*4294967296+c)*T=b*T*4294967296+c*T:=(by grind);rw[this];have:c*T<=4294967295*T:=aP _ om;omega
  have F:b*T+T<=4294967296:=by
   have:(b+1)*T<=R*T:=aP _ (by
    apply tM;intro f;have:R*T<=b*T:=aP _ f;omega)
   rw[bI] at this;omega
  omega
 have tot:(b*4294967296+c)*T+d*T/4294967296<18446744073709551616:=by
  have:(b*4294967296+c+1)*T<=18446744073709551616:=by have G:b<R:=(by apply tM;intro f;have:R*T<=b*T:=aP _ f;omega);have p:b*4294967296+c+1<=R*4294967296:=om;have H:=aP T p;have I:R*4294967296*T=4294967296*(R*T):=(by grind);omega
  rw[bI _ 1] at this;omega
 have g:(b*4294967296+c)*T+d*T/4294967296=((b*4294967296+c)*4294967296+d)/R:=by rw[B,<-l,show (b*(R*T)+c)*(R*T)+d=d+R*((b*(R*T)+c)*T) by grind,Nat.add_mul_div_left _ _ a];omega
 have h:((b*4294967296+c)*4294967296+d)/R=(((b*4294967296+c)*4294967296+d)*W+r)/(R*W):=by rw[cJ R W,<-mU,cJ _ W,jO (W*_) r,Nat.add_mul_div_left _ _ (show 0<W by omega),iI hl,aZ]
 have C:0<R*W:=fE a om;refine⟨_,rfl,tot,v,z, ?_, ?_, ?_⟩
 . rw[g,h];exact oT _ _
 . rw[g,h];generalize ((b*4294967296+c)*4294967296+d)*W+r=V;have:=Nat.lt_div_mul_add (a:=V) C;rw[bI,dS];exact this
 . rw[g,h]
end Go.Proofs.YtinihjgnnlemmaaGreatDoor
