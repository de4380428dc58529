import Derived.Shelf.Strconv.AppendUint10
import Derived.Shelf.Strings.Repeat
import Derived.Shelf.Strconv.Itoa3
import Derived.Shelf.Strings.OnBuilder
import Derived.Test.YtinihjgnnlemmaaGreatDoorOwnP27
set_option maxHeartbeats 6400000
set_option maxRecDepth 100000
set_option linter.unusedVariables false
namespace Go.Proofs.YtinihjgnnlemmaaGreatDoor
open Tryz
open Go.Lib
variable{w v W V:World}{n m c d k i j l o b p q t r s g h e:Nat}{a A B:Option Addr}{X Y Z:Nat->Nat}{u U:Value}{f F:Bool}
def pad:Nat->Nat->List UInt8
 | 0,_=>[]
 | k+1,r=>pad k (r/10)++[UInt8.ofNat (48+r % 10)]
theorem amp(h:¬n<10):decDigits n=decDigits (n/10)++[UInt8.ofNat (48+n % 10)]:=by rw[decDigits,dif_neg h]
theorem aps(n:Nat):∀(q r:Nat),0<q->r<10^n->decDigits (q*10^n+r)=decDigits q++pad n r:=by
 induction n with
 | zero=>intro q r b a;simp at a;subst a;simp[pad]
 | succ n ih=>
   intro q r b a;have f:1<=10^n:=Nat.one_le_pow _ _ qd;have e:q*10^(n+1)=q*10^n*10:=(by rw[iH,cS]);have g:=dF b f;have c:(q*10^(n+1)+r)/10=q*10^n+r/10:=(by rw[e];omega);have d:(q*10^(n+1)+r) % 10=r % 10:=(by rw[e];omega);rw[amp (by rw[e];omega),c,d,ih q (r/10) b (by rw[iH] at a;omega),pad,dZ]
theorem akV(n:Nat):pad n 0=List.replicate n 48:=by
 induction n with
 | zero=>rfl
 | succ n ih=>
   have:pad (n+1) 0=pad n 0++[48]:=rfl;rw[this,ih,List.replicate_succ']
theorem apW(d:1<=n)(h:m<10^n):nDigits m<=n:=by
 induction n generalizing m with
 | zero=>omega
 | succ n ih=>
   by_cases a:m<10
   . rw[nDigits_small a];omega
   . rw[nDigits_big a];have b:m/10<10^n:=by rw[iH] at h;omega
     have c:1<=n:=by
      rcases cQ n with h | h
      . subst h;simp at b;omega
      . omega
     have:=ih c b;omega
theorem aoQ(n:Nat):∀r,1<=n->r<10^n->pad n r=List.replicate (n-nDigits r) 48++decDigits r:=by
 induction n with
 | zero=>intro r h;omega
 | succ n ih=>
   intro r _ d;by_cases a:r<10
   . rw[nDigits_small a,decDigits_one a];have e:pad (n+1) r=pad n (r/10)++[UInt8.ofNat (48+r % 10)]:=rfl;rw[e,show r/10=0 by omega,akV,show n+1-1=n by omega,show r % 10=r by omega]
   . have b:r/10<10^n:=by rw[iH] at d;omega
     have c:1<=n:=by
      rcases cQ n with h | h
      . subst h;simp at b;omega
      . omega
     have e:pad (n+1) r=pad n (r/10)++[UInt8.ofNat (48+r % 10)]:=rfl;rw[e,ih _ c b,nDigits_big a,amp a,show n+1-(nDigits (r/10)+1)=n-nDigits (r/10) by omega,dZ]
theorem amo(a:0<n)(b:m<1000000000):decDigits (n*1000000000+m)=decDigits n++(List.replicate (9-nDigits m) 48++decDigits m):=by
 have h:=b;have:=aps 9 n m a h;rw[aoQ 9 m om h] at this;exact this
def dgt(v k:Nat):Nat:=v/10^k % 10
theorem eV(n m:Nat):dgt n m<10:=iS _ om
def cry(v c k:Nat):Nat:=(2*(v % 10^k)+c)/10^k
theorem ams(n m:Nat):cry n m 0=m:=by simp[cry,rX]
theorem apw{v:Nat}(b:n<=1)(m:Nat):cry v n m<=1:=by
 have a:1<=10^m:=Nat.one_le_pow _ _ qd;have h:v % 10^m<10^m:=iS _ a;have:cry v n m<2:=(gJ a).2 om;omega
theorem aoE(b:1<=n)(e:2*c+d=k*n+(2*c+d) % n):(2*(c+n*m)+d)/n=2*m+k:=by
 have a:2*(c+n*m)+d=(2*c+d) % n+n*(2*m+k):=by
  rw[fY n,cJ n k];have:2*(n*m)=n*(2*m):=by rw[<-cS,cJ 2 n,cS]
  omega
 rw[a,Nat.add_mul_div_left _ _ om,iI (iS _ b)];omega
theorem aiM(n m c:Nat):(2*(n % 10^(c+1))+m)/10^c=2*dgt n c+cry n m c:=by
 have a:1<=10^c:=Nat.one_le_pow _ _ qd;rw[Nat.mod_pow_succ];refine aoE a ?_;show _=(2*(n % 10^c)+m)/10^c*10^c+_;rw[cJ ((2*(n % 10^c)+m)/10^c)];exact (iW _ _).symm
theorem amt(n m c:Nat):cry n m (c+1)=(2*dgt n c+cry n m c)/10:=by
 rw[<-aiM,mU,<-iH];rfl
theorem anJ(n m c:Nat):dgt (2*n+m) c=(2*dgt n c+cry n m c) % 10:=by
 have a:1<=10^c:=Nat.one_le_pow _ _ qd;rw[<-aiM];unfold dgt;have e:2*n+m=2*(n % 10^(c+1))+m+10^c*(10*(2*(n/10^(c+1)))):=by have h:=iW n (10^(c+1));rw[<-cS,<-iH,<-cS,cJ (10^(c+1)) 2,cS];omega
 rw[e,Nat.add_mul_div_left _ _ om,Nat.add_mul_mod_self_left]
theorem aiL(c:Nat)(h:n<10^m):cry n c m=(2*n+c)/10^m:=by unfold cry;rw[iC h]
theorem ajr{v:Nat}(h:0<v):10^(nDigits v-1)<=v:=by
 induction v using Nat.strongRecOn with
 | _ v ih=>
   by_cases a:v<10
   . rw[nDigits_small a];simp;omega
   . rw[nDigits_big a];have:=ih (v/10) om om;have b:=nDigits_pos (v/10);rw[show nDigits (v/10)+1-1=(nDigits (v/10)-1)+1 by omega,iH];omega
theorem ann(e:m<=1)(h:0<cry n m (nDigits n)):nDigits (2*n+m)=nDigits n+1/\dgt (2*n+m) (nDigits n)=cry n m (nDigits n):=by
 have hl:=lt_pow_nDigits n;have b:=apw e (v:=n) (nDigits n);have f:1<=10^nDigits n:=Nat.one_le_pow _ _ qd;rw[aiL m hl] at h b⊢;have d:10^nDigits n<=2*n+m:=by
  rcases jI (2*n+m) (10^nDigits n) with a | a
  . rw[iI a] at h;omega
  . exact a
 refine⟨nDigits_unique _ _ d (by rw[iH];omega), ?_⟩;unfold dgt;exact iC om
theorem anm(g:m<=1)(h:cry n m (nDigits n)=0):nDigits (2*n+m)=nDigits n:=by
 have hl:=lt_pow_nDigits n;have e:1<=10^nDigits n:=Nat.one_le_pow _ _ qd;rw[aiL m hl] at h;have d:2*n+m<10^nDigits n:=by
  rcases jI (2*n+m) (10^nDigits n) with a | a
  . exact a
  . have:=tS a e;omega
 by_cases b:n=0
 . subst b;rw[nDigits_small om,nDigits_small om]
 . have a:=ajr (v:=n) om;have f:=nDigits_pos n;have:=nDigits_unique (nDigits n-1) (2*n+m) om (by rw[show nDigits n-1+1=nDigits n by omega];exact d);omega
theorem xJ(h:n<2^m):nDigits n<=m+1:=by
 induction m generalizing n with
 | zero=>rw[nDigits_small (by simp at h;omega)];omega
 | succ m ih=>
   by_cases a:n<10
   . rw[nDigits_small a];omega
   . rw[nDigits_big a];have:=ih (n:=n/10) (by rw[iH] at h;omega);omega
theorem apv(n:Nat):decDigits n=(List.range (nDigits n)).map fun t=>UInt8.ofNat (48+dgt n (nDigits n-1-t)):=decDigits_eq n
end Go.Proofs.YtinihjgnnlemmaaGreatDoor
namespace Go.Proofs.YtinihjgnnlemmaaGreatDoor
open Tryz Go.RowKit
variable{w v W V:World}{n m c d k i j l o b p q t r s g h e:Nat}{a A B:Option Addr}{X Y Z:Nat->Nat}{u U:Value}{f F:Bool}
theorem bN:(Tryz.prog.info? 5).map (fun i=>(i.zero,i.size,i.bytes))=some (some (.int .u8 0),1,1):=by kernel_rfl
def yl(X:Nat->Nat)(m:Nat):List Value:=(List.range m).map fun j=>.int .u8 (X j)
theorem ahT(X:Nat->Nat)(n:Nat):yl X (n+1)=yl X n++[.int .u8 (X n)]:=by simp[yl,gY]
theorem ao9(X:Nat->Nat)(n m:Nat)(h:m<n):(yl X n)[m]?=some (.int .u8 (X m)):=by simp[yl,h]
theorem akz(h:∀j,j<n->X j=Y j):yl X n=yl Y n:=by
 unfold yl;exact fG (fun j a=>by rw[h j (dU.1 a)])
theorem df(h:w.ownsRow n 5 1 u m (yl X m))(f:u≠ .n):
 ∃g a,u=.s g m a/\m<=a/\n<=g/\g<w.heap.size/\(∀j,j<m->w.cell? (jj g j)=some (.int .u8 (X j)))/\(∀o,w.frozen? (jj g o)=false):=by
 have c:= @World.ownsRow.cells _ _ _ _ _ _ _ h;rcases h.2 with ⟨rfl,rfl⟩ | ⟨g,a,i,rfl,hb,b,e,_⟩
 . exact absurd rfl f
 . refine⟨g,a,rfl,e,hb,(dM.1 b).1,fun j d=> ?_,fun o=>by simp[World.frozen?,b]⟩;have:=c (g:=g) rfl j _ (ao9 X m j d);rw[mT] at this;simpa using this
theorem akZ(h:w.ownsRow n 5 1 (.s m c d) c (yl X c))(k i:Nat)(z:Int)(l:z=(i:Int)):
 (w.setCell ⟨m,k,none⟩ (.int .u8 z)).ownsRow n 5 1 (.s m c d) c (yl (mN X k i) c):=by
 subst l;obtain⟨hl,h | ⟨y,v,a,e,hb,A,p,o,q,f⟩⟩:=h
 . cases h.1
 . cases e;have r:w.rowIs m 5 d (fun j=>a[j]?.getD (.bool false)):=⟨a,A,by simpa using q,fun j b=>by
    show a[j]?=some (a[j]?.getD (.bool false));rw[Array.getElem?_eq_getElem om];rfl⟩
   obtain⟨x,s,t,u⟩:=r.set k (.int .u8 i);refine⟨by simp[yl],Or.inr ⟨m,d,x,rfl,hb,s,p,o,by simpa using t, ?_⟩⟩;apply jF;intro j;rw[iF] at f⊢;by_cases b:j<c
   . rw[oS b,tK,u j om];have g:(yl X c)[j]?=a[j]?:=(by rw[<-f,oS b,tK]);simp only[yl,cY,fK b,kJ] at g⊢;by_cases e:j=k
     . subst e;simp[fR]
     . rw[aM e,eT _ _ _ _ e,<-g];rfl
   . rw[dJ (by simp;omega),dJ (by simp[yl];omega)]
def tv(B:Nat->Bool)(n k:Nat):Nat:=bv (fun j=>B (k+j)) (n-k)
theorem aoA(B:Nat->Bool)(n:Nat):tv B n 0=bv B n:=mr (fun j _=>by rw[aZ])
theorem amL(B:Nat->Bool)(n:Nat):tv B n n=0:=by simp[tv,bv]
theorem amK(B:Nat->Bool)(h:m<n):tv B n m=2*tv B n (m+1)+(B m).toNat:=by
 unfold tv;rw[show n-m=(n-(m+1))+1 by omega,vv];congr 1;congr 1;exact mr (fun j _=>by rw[show m+(j+1)=m+1+j by omega])
theorem apD(B:Nat->Bool)(n m:Nat):tv B n m<2^n:=aS (ao _ _) (dP om om)
def bo(V c:Nat)(D:Nat->Nat)(j:Nat):Prop:=∀q,D q=if q<j then dgt (2*V+c) q else dgt V q
theorem ahH(n m:Nat):bo n m (dgt n) 0:=fun q=>by simp
theorem akh{y:Nat}(h:bo n m X c)(b:X c=d)(f:y=(2*d+cry n m c) % 10):bo n m (mN X c y) (c+1):=by
 intro q;by_cases e:q=c
 . subst e;rw[fR,aY om,anJ,f,<-b,h q,aM om]
 . rw[eT _ _ _ _ e,h q];by_cases a:q<c
   . rw[aY a,aY om]
   . rw[aM a,aM om]
theorem aiI(h:bo n m X c):X c=dgt n c:=by rw[h c,aM om]
theorem amq(h:bo n m X c):∀q,q<c->X q=dgt (2*n+m) q:=fun q a=>by rw[h q,aY a]
theorem apr(n:Nat):yl (fun t=>48+dgt n (Lib.nDigits n-1-t)) (Lib.nDigits n)=Lib.byteCells (Lib.decDigits n):=by
 rw[apv];unfold yl Lib.byteCells;rw[sU];refine fG fun t _=> ?_;have a:=eV n (Lib.nDigits n-1-t);simp only[Function.comp,UInt8.toNat_ofNat'];rw[iC om]
theorem og{l:List UInt8}(h:w.ownsRow n 5 1 u m (Lib.byteCells l))(d:u≠ .n)(hl:m=l.length):
 ∃g a,u=.s g m a/\(convert 22 9 (.s g m a)).run Tryz.prog w=.ok (.string ⟨l.toArray⟩) w:=by
 subst hl;have b:= @World.ownsRow.cells _ _ _ _ _ _ _ h;rcases h.2 with ⟨rfl,-⟩ | ⟨g,a,e,rfl,hb,f,i,_⟩
 . exact absurd rfl d
 . refine⟨g,a,rfl,run_convert_bytes_back w 22 9 5 (jj g 0) a l underlying22 underlying5 underlying9 (fun j c=> ?_)⟩;exact b (g:=g) rfl j _ (by simp[Lib.byteCells,c])
theorem lJ{a:Option Addr}{n m c d:Nat}{B:Nat->Bool}{w:World}(hn:c<=2147483648)(a9:jx w a n m c B):
 Cl 65 #[.slice a c d] w fun e w'=>e=.returned (.string ⟨(Lib.decDigits (bv B c)).toArray⟩)/\w.S w':=by
 obtain⟨i0,hi,aj,ak,al⟩:=kT bN;go_enter func65,ntmps65;have ag:(w.alloc (.o #[.int .u8 0] 5)).ownsRow w.heap.size 5 1 (.s w.heap.size 1 1) 1 (yl (dgt 0) 1):=aim w w.heap.size (.int .u8 0) 5 zR;have an:=eI (amL B c);go_wp2;go_loopw [3,4] (fun v t wr=>∃(k b V:Nat) (z:Int),k<=c/\t=.i z/\Hid (z=(k:Int)-1)/\Hid (v≠ .n)/\wr.ownsRow w.heap.size 5 1 v b (yl (dgt V) b)/\w.S wr/\Hid (V=tv B c k/\b=Lib.nDigits V)) (fun _ t _=>(intOf t+1).toNat)
 case atStart=>exact⟨c,1,0,(c:Int)-1,aC _,rfl,eI rfl,eI qz,ag,fA _ _,eI ⟨an.out.symm,(Lib.nDigits_small om).symm⟩⟩
 case round=>
  clear ag;obtain⟨k,b,V,z,I,rfl,r,s,f,h,i⟩:=hrel;have hm:b<=2147483649:=by have h1:=xJ (apD B c k);have F:=i.out.1;have h3:=i.out.2;rw[<-F,<-h3] at h1;omega
  by_cases h0:0<k
  . have y:z=((k-1:Nat):Int):=(by have:=r.out;omega);clear r;subst y;have a1:(0:Int)<=((k-1:Nat):Int):=om;obtain⟨rfl,o⟩:=a9 (k-1) om;have g0:wr.cell? (jj n (m+(k-1)))=some (.bool (B (k-1))):=(by rw[h.cell (a:=jj n (m+(k-1))) (a9.lt om)];exact o);clear o;have C:=eI (amK B (show k-1<c by omega));obtain⟨x,hx⟩:∃x,x=B (k-1):=⟨_,rfl⟩;rw[<-hx] at g0 C;clear hx;obtain⟨g,af,rfl,ax,hg,ai,-,-⟩:=df f s.out;obtain⟨Y,o⟩:∃Y,Y=x.toNat:=⟨_,rfl⟩;have ba:Y<=1:=(by rw[o];cases x<;>decide);have U:=C.out;rw[<-o,show k-1+1=k by omega,<-i.out.1] at U;have HC:=eI o;clear C o;have C:=eI U;clear U;cases x
    focus
     go_wp2
    rotate_left
    focus
     go_wp2
    all_goals
     go_loopw [5,6] (fun q t O=>∃(j l:Nat) (D:Nat->Nat),j<=b/\t=.i j/\q=.int .u8 l/\l<=1/\Hid (l=cry V Y j)/\O.ownsRow w.heap.size 5 1 (.s g b af) b (yl D b)/\w.S O/\Hid (bo V Y D j)) (fun _ t _=>b-(intOf t).toNat)
     case atStart=>exact⟨0,Y,dgt V,aJ _,rfl,by rw[HC.out];rfl,ba,eI (ams V Y).symm,f,h,eI (ahH V Y)⟩
     case round=>
      clear f h g0;obtain⟨j,l,D,hj,rfl,rfl,a3,A,f,h,E⟩:=hrel;by_cases aw:j<b
      . obtain⟨g',ar,e,-,-,-,o,hf⟩:=df f qz;cases e;have X:=o j aw;have f1:=hf j;have a0:D j<=9:=(by rw[aiI E.out];have:=eV V j;omega);have W:=eI (fun (a2:Nat)=>akh (y:=a2) E.out rfl);rw[<-A.out] at W;have R:=eI (amt V Y j);rw[<-A.out,<-aiI E.out] at R;obtain⟨Z,G⟩:∃Z,Z=D j:=⟨_,rfl⟩;rw[<-G] at X a0 W R;clear G o hf A;have a5:(j:Int)<b:=om;go_wp2;go_roundw
        case rel=>go_light;exact⟨j+1,(2*Z+l)/10,_,om,by go_num,congrArg (Value.int .u8) om,om,eI R.out.symm,akZ f j ((2*Z+l) % 10) _ om,h.setCell hg _,eI (W.out _ rfl)⟩
        case measure=>simp[intOf]<;>omega
      . have e:j=b:=om;subst e;have am:=eI (amq E.out);clear E;have M:=f;rw[akz am.out] at M;have Q:=i.out;rcases cQ l with F | F
        . subst F;have P:=eI (anm ba (by rw[<-Q.2];exact A.out.symm));clear Q;go_wp2;go_roundw
          case rel=>exact⟨k-1,j,2*V+Y,((k-1:Nat):Int)-1,om,by go_num,eI rfl,eI qz,M,h,eI ⟨C.out.symm,by rw[P.out];exact i.out.2⟩⟩
          case measure=>simp[intOf]<;>omega
        . have a4:((0:Int)<l):=om;have P:=eI (ann ba (by rw[<-Q.2,<-A.out];exact F));clear Q;have az:=h.size;go_wp2_with (at_builtin;refine gK _ rfl _ _ 22 rfl w.heap.size 5 i0 (.int .u8 0) 1 1 underlying22 hi aj ak al rfl qd _ _ _ rfl (M.alloc _) (jj wr.heap.size 0) 1 1 [.int .u8 l] rfl rfl (iq _ _ _) (one_one _ rfl) (by unfold maxLen;omega) om (by simp;omega) ?_);intro v' N L H K;have ac:w.S N:=(h.alloc h.size _).grown H (by simp;omega) (fun k I=>(M.lt k I).1);have T:=eI K;have ab:N.ownsRow w.heap.size 5 1 v' (j+1) (yl (dgt (2*V+Y)) (j+1)):=by
           rw[ahT,show dgt (2*V+Y) j=l from by rw[A.out,i.out.2];exact P.out.2];exact L
          clear L H K f M h s;go_wp2;go_roundw
          case rel=>exact⟨k-1,j+1,2*V+Y,((k-1:Nat):Int)-1,om,by go_num,eI rfl,T,ab,ac,eI ⟨C.out.symm,by rw[P.out.1,<-i.out.2]⟩⟩
          case measure=>simp[intOf]<;>omega
  . have y:z=-1:=(by have:=r.out;omega);clear r;subst y;have k0:k=0:=om;subst k0;have ao:=eI (i.out.1.trans (aoA B c));have S:=eI i.out.2;clear i;obtain⟨g,af,rfl,ax,hg,ai,au,-⟩:=df f s.out;clear s f a9;have a7:1<=b:=(by have:=Lib.nDigits_pos V;rw[S.out];exact this);generalize wr=p at*;have sA:=fA p (.o #[] 5);have ah:(p.alloc (.o #[] 5)).ownsRow p.heap.size 5 1 (.s p.heap.size 0 0) 0 []:=iP p #[] 0 zR qd rfl;go_wp2;go_loopw [8,9] (fun v t O=>∃(k:Nat) (z:Int),k<=b/\t=.i z/\Hid (z=(k:Int)-1)/\Hid (v≠ .n)/\O.ownsRow p.heap.size 5 1 v (b-k) (yl (fun q=>48+dgt V (b-1-q)) (b-k))/\p.S O) (fun _ t _=>(intOf t+1).toNat)
    case atStart=>exact⟨b,(b:Int)-1,aC _,rfl,eI rfl,eI qz,by rw[uD];exact ah,sA⟩
    case round=>
     clear sA ah;obtain⟨k,z,I,rfl,r,s,f,u⟩:=hrel;by_cases h1:0<k
     . have y:z=((k-1:Nat):Int):=(by have:=r.out;omega);clear r;subst y;have a1:(0:Int)<=((k-1:Nat):Int):=om;have X:wr.cell? (jj g (k-1))=some (.int .u8 (dgt V (k-1))):=(by rw[u.cell (a:=jj g (k-1)) ai];exact au (k-1) om);have ae:Hid (dgt V (b-1-(b-k))=dgt V (k-1)):=(by rw[show b-1-(b-k)=k-1 by omega];rfl);have av:=eV V (k-1);obtain⟨Z,G⟩:∃Z,Z=dgt V (k-1):=⟨_,rfl⟩;rw[<-G] at X av ae;clear G;have az:=u.size;have a6:((k-1:Nat):Int)<b:=om;have a8:IntKind.u8.wrap (48+(Z:Int))=((48+Z:Nat):Int):=(by rw[IntKind.wrap_u8];omega);go_wp2_with (at_builtin;refine gK _ rfl _ _ 22 rfl p.heap.size 5 i0 (.int .u8 0) 1 1 underlying22 hi aj ak al rfl qd _ _ _ rfl (f.alloc _) (jj wr.heap.size 0) 1 1 [.int .u8 _] rfl rfl (iq _ _ _) (one_one _ rfl) (by unfold maxLen;omega) om (by simp;omega) ?_);intro v' N L H K;have ac:p.S N:=(u.alloc u.size _).grown H (by simp;omega) (fun k I=>(f.lt k I).1);have T:=eI K;have ab:N.ownsRow p.heap.size 5 1 v' (b-(k-1)) (yl (fun q=>48+dgt V (b-1-q)) (b-(k-1))):=by
        rw[show b-(k-1)=(b-k)+1 by omega,ahT,ae.out];exact L
       clear L H K f u s;go_wp2;go_roundw
       case rel=>exact⟨k-1,((k-1:Nat):Int)-1,om,by go_num,eI rfl,T,ab,ac⟩
       case measure=>simp[intOf]<;>omega
     . have y:z=-1:=(by have:=r.out;omega);clear r;subst y;have k0:k=0:=om;subst k0;rw[Nat.sub_zero] at f;have HR:=eI (apr V);rw[<-S.out] at HR;rw[HR.out] at f;have aa:=og f s.out (by rw[Lib.decDigits_length];exact S.out);rw[ao.out] at aa;obtain⟨g2,ar,rfl,aa⟩:=aa;have ay:=h.tr u;clear f u s;go_wp2;go_ret;exact⟨rfl,ay⟩
def jG(neg:Bool)(N D:Nat):List UInt8:=(if neg then [45] else [])++(Lib.decDigits N++(if D=1 then [] else 47::Lib.decDigits D))
theorem tz(l m:List UInt8):(⟨l.toArray⟩:ByteArray)++⟨m.toArray⟩=⟨(l++m).toArray⟩:=by
 have h:((⟨l.toArray⟩:ByteArray)++⟨m.toArray⟩).data=(l++m).toArray:=by simp
 cases hx:((⟨l.toArray⟩:ByteArray)++⟨m.toArray⟩);rw[hx] at h;rw[<-h]
theorem apu(a:n<=1048576)(h:∀j,j<n->X j<4294967296):(Lib.decDigits (lv X n)).length<=33554433:=by
 rw[Lib.decDigits_length];have:=xJ (kI X n h);omega
theorem aiH(a:n<=16777216)(h:∀j,j<n->X j<4294967296):(Lib.decDigits (lv X n)).length<=536870913:=by
 rw[Lib.decDigits_length];have:=xJ (kI X n h);omega
theorem ajC(b:∀j,j<n->X j<4294967296)(c:0<n->X (n-1)≠0)(h:lv X n=1):n=1/\X 0=1:=by
 obtain⟨e,a⟩:=alx (Y:=fun _=>1) (m:=1) b (fun _ _=>by decide) c (fun _=>by decide) (by rw[h];simp[lv]);exact⟨e,a 0 om⟩
theorem acm{f:Bool}{a A:Option Addr}{n m c d k i j l:Nat}{X Y:Nat->Nat}{w:World}(hn:c<=16777216)(ag:j<=16777216)(T:eO w a n m c X)(V:eO w A k i j Y)
 (U:∀p,p<c->X p<4294967296)(af:∀p,p<j->Y p<4294967296)(pY:0<j->Y (j-1)≠0):
 Cl 67 #[.agg #[.bool f,.slice a c d,.slice A j l]] w fun e w'=>e=.returned (.string ⟨(jG f (lv X c) (lv Y j)).toArray⟩)/\w.S w':=by
 have C:=fA w (.cells #[.bool f,.slice a c d,.slice A j l] 70);have M:=eS.new w (.bool f) (.slice a c d) (.slice A j l) 70;have x:=eI U;have g:=eI af;have E:=eI pY;go_enter func67,ntmps67;go_wp2_with fail;generalize w.alloc _=w1 at*;refine (i8 om (T.aA C) x.out).mono ?_;rintro e w2 ⟨a2,g2,m2,c2,B2,rfl,ab,ac,I,-,-,v2,Z⟩;have F:=eI v2;have K:=C.tr Z;have G:=M.aA Z;go_wp2_with fail;refine mo (lJ om I) fun w3 B=> ?_;rw[F.out];have o:=K.tr B;have H:=G.aA B;have s:=V.aA o;have ae:=aiH hn x.out;have ad:=aiH ag g.out;obtain⟨k0,k1,k2⟩:=H.g;by_cases y:j=1
 . subst y;obtain⟨rfl,z⟩:=s 0 om;rw[fV] at z;by_cases q:Y 0=1
   . have b:Hid (lv Y 1=1):=(by show lv Y 1=1;simp[lv,q]);rw[q] at z;cases f
     . go_wp2;go_ret;refine⟨?_,o⟩;rw[b.out];simp[jG]
     . go_wp2;go_ret;refine⟨?_,o⟩;rw[b.out];simp[jG,tz]
   . have b:Hid (¬lv Y 1=1):=fun h=>q (by simpa [lv] using h);have aa:((Y 0:Int)==1)=false:=(by simp;omega);cases f
     all_goals
      go_wp2_with fail;refine (i8 om s g.out).mono ?_;rintro e w4 ⟨L,Q,m4,P,D,rfl,R,S,O,-,-,v,t⟩;have N:=eI v;have W:=o.tr t;go_wp2_with fail;refine mo (lJ om O) fun w5 u=> ?_;rw[N.out];go_wp2;go_ret;refine⟨?_,W.tr u⟩;have r:=b.out;simp[jG,tz,r]
 . have b:Hid (¬lv Y j=1):=fun h=>y (ajC g.out E.out h).1;have aa:((j:Int)==1)=false:=(by simp;omega);cases f
   all_goals
    go_wp2_with fail;refine (i8 om s g.out).mono ?_;rintro e w4 ⟨L,Q,m4,P,D,rfl,R,S,O,-,-,v,t⟩;have N:=eI v;have W:=o.tr t;go_wp2_with fail;refine mo (lJ om O) fun w5 u=> ?_;rw[N.out];go_wp2;go_ret;refine⟨?_,W.tr u⟩;have r:=b.out;simp[jG,tz,r]
end Go.Proofs.YtinihjgnnlemmaaGreatDoor
namespace Go.Proofs
open Go.Shelf
theorem shk{p:Prop}(h:p:=by
 constructor
 all_goals first | kernel_rfl | decide | (intros;kernel_rfl)):p:=h
theorem shm{p:Prop}(h:p:=by
 constructor
 all_goals first | kernel_rfl | decide | (intros;kernel_rfl) | exact shk):p:=h
theorem shl{p:Prop}(h:p:=by
 constructor
 all_goals first | kernel_rfl | decide | (intros;kernel_rfl) | exact shm):p:=h
def aa6:Go.Shelf.Ren:=⟨fun | 169=>30 | n=>n,fun | 70=>54 | 9=>9 | 0=>0 | 72=>56 | 37=>22 | 127=>106 | 3=>3 | 5=>5 | n=>n,fun | n=>n⟩
theorem anw:Go.Proofs.Lays.n169 Tryz.prog aa6:=shl
theorem zv:Builder.Extra Tryz.prog aa6:=shl
open Go.RowKit in
theorem Builder_String_any(B b:Nat)(l:List UInt8)(w:World)(h:Lib.IsBuilder 56 5 B b (Lib.byteCells l) w)(hBw:B<=w.heap.size):
 Calls Tryz.prog 30 #[.pointer (some ⟨b,0,none⟩)] w fun e w'=>e=.returned (.string ⟨l.toArray⟩)/\Below B w w':=Any.Builder_String_any anw zv B b l w h hBw
def aa7:Go.Shelf.Ren:=⟨fun | 156=>60 | 165=>93 | 166=>23 | 169=>30 | 240=>59 | 241=>130 | 276=>92 | 277=>179 | n=>n,fun | 31=>36 | 9=>9 | 3=>3 | 4=>4 | 0=>0 | 20=>20 | 72=>56 | 76=>59 | 70=>54 | 37=>22 | 75=>58 | 127=>106 | 164=>128 | 5=>5 | 80=>72 | n=>n,fun | n=>n⟩
theorem anx:Go.Proofs.Lays.n156 Tryz.prog aa7:=shl
theorem zw:Builder.Extra Tryz.prog aa7:=shl
open Go.RowKit in
theorem strings_Join(bk o c:Nat)(xs:List ByteArray)(sep:ByteArray)(w:World)(hcells:∀(j:Nat) x,xs[j]?=some x->w.cell? ⟨bk,o+j,none⟩=some (.string x))(hbk:bk<w.heap.size)(hN:xs.length<=140737488355328)(hcap:xs.length<=c)(hlen:(Lib.join (xs.map (·.data.toList)) sep.data.toList).length<=140737488355328):
 Calls Tryz.prog 60 #[.slice (some ⟨bk,o,none⟩) xs.length c,.string sep] w fun e w'=>e=.returned (.string ⟨(Lib.join (xs.map (·.data.toList)) sep.data.toList).toArray⟩)/\Below w.heap.size w w':=Any.strings_Join anx zw bk o c xs sep w hcells hbk hN hcap hlen
def afK:Go.Shelf.Ren:=⟨fun | 283=>131 | n=>n,fun | 3=>3 | 9=>9 | 4=>4 | n=>n,fun | n=>n⟩
theorem anv:Go.Proofs.Lays.n283 Tryz.prog afK:=shl
open Go.Lib in
theorem internal_strconv_small(i:Nat)(h:i<100)(w:World):
 Calls Tryz.prog 131 #[.int .i64 i] w fun e w'=>e=.returned (.string ⟨(Lib.decDigits i).toArray⟩)/\w'=w:=Any.internal_strconv_small anv i h w
def aev:Go.Shelf.Ren:=⟨fun | 284=>132 | 129=>181 | 317=>180 | 318=>182 | n=>n,fun | 53=>110 | 3=>3 | 212=>214 | 0=>0 | 4=>4 | 46=>173 | 5=>5 | 9=>9 | n=>n,fun | 17=>0 | n=>n⟩
theorem alA:Go.Proofs.LaysM.n284 Tryz.prog aev:=shl
open Go.Lib in
theorem internal_strconv_numDigits(u:Nat)(h1:1<=u)(h2:u<18446744073709551616)(w:World)(htab:Lib.TabIs Tryz.prog w "internal/strconv.uint64pow10" .u64 Lib.pow10Tab):
 Calls Tryz.prog 132 #[.int .u64 u] w fun e w'=>e=.returned (.int .i64 (Lib.nDigits u))/\w'=w:=Any.internal_strconv_numDigits alA u h1 h2 w htab
def afJ:Go.Shelf.Ren:=⟨fun | 285=>133 | n=>n,fun | 37=>22 | 53=>110 | 3=>3 | 4=>4 | 51=>133 | 9=>9 | 5=>5 | 0=>0 | n=>n,fun | n=>n⟩
theorem anu:Go.Proofs.Lays.n285 Tryz.prog afJ:=shl
open Go.RowKit Go.Sort Go.Lib in
theorem internal_strconv_formatBase10(blk off cap:Nat)(u:Nat)(d:Array UInt8)(w:World)(hH:Holds (fun (b:UInt8)=>Value.int .u8 (b.toNat:Int)) w blk off d)(hu:u<10^d.size)(hu64:u<18446744073709551616)(hsz:d.size<4611686018427387904):
 Calls Tryz.prog 133 #[.slice (some ⟨blk,off,none⟩) d.size cap,.int .u64 u] w fun e w'=>
  e=.returned (.tuple #[])/\∃(n v':Nat) (dk:Array UInt8),w'=(putRow (fun (b:UInt8)=>Value.int .u8 (b.toNat:Int)) w blk off dk).drewN n/\FmtInv d.size u 0 v' dk:=Any.internal_strconv_formatBase10 anu blk off cap u d w hH hu hu64 hsz
def aew:Go.Shelf.Ren:=⟨fun | 171=>25 | 243=>61 | 246=>94 | 283=>131 | 284=>132 | 285=>133 | 286=>134 | 129=>181 | 317=>180 | 318=>182 | 319=>183 | 320=>184 | 337=>215 | 338=>216 | n=>n,fun | 3=>3 | 9=>9 | 2=>2 | 4=>4 | 171=>168 | 0=>0 | 53=>110 | 37=>22 | 5=>5 | 173=>171 | 212=>214 | 51=>133 | 20=>20 | 213=>215 | 46=>173 | 232=>255 | 233=>256 | n=>n,fun | 17=>0 | 18=>4 | 19=>5 | n=>n⟩
theorem alB:Go.Proofs.LaysM.n171 Tryz.prog aew:=shl
open Go.RowKit Go.Sort Go.Lib in
theorem strconv_Itoa(n:Int)(h0:-9223372036854775808<=n)(h1:n<=9223372036854775807)(w:World)(htab:Lib.TabIs Tryz.prog w "internal/strconv.uint64pow10" .u64 Lib.pow10Tab):
 Calls Tryz.prog 25 #[.int .i64 n] w fun e w'=>e=.returned (.string ⟨(Lib.itoa n).toArray⟩)/\∃k os,w'=grow (w.drewN k) os:=Any.strconv_Itoa alB n h0 h1 w htab
def aeu:Go.Shelf.Ren:=⟨fun | 288=>136 | 283=>131 | 284=>132 | 285=>133 | 286=>134 | 129=>181 | 317=>180 | 318=>182 | 319=>183 | 320=>184 | 337=>215 | 338=>216 | n=>n,fun | 37=>22 | 53=>110 | 3=>3 | 4=>4 | 9=>9 | 171=>168 | 0=>0 | 173=>171 | 212=>214 | 51=>133 | 5=>5 | 20=>20 | 213=>215 | 46=>173 | 232=>255 | 233=>256 | n=>n,fun | 17=>0 | 18=>4 | 19=>5 | n=>n⟩
theorem afI:Go.Proofs.LaysM.n288 Tryz.prog aeu:=shl
open Go.RowKit Go.Sort Go.Lib in
theorem internal_strconv_AppendUint_10_small(B n u:Nat)(hu:u<100)(sv:Value)(xs:List Value)(w:World)(hown:w.ownsRow B 5 1 sv n xs)(hBw:B<=w.heap.size)(hlim:n+20<=140737488355328):
 Calls Tryz.prog 136 #[sv,.int .u64 u,.int .i64 10] w fun e w'=>∃v',e=.returned v'/\w'.ownsRow B 5 1 v' (n+(Lib.decDigits u).length) (xs++Lib.byteCells (Lib.decDigits u))/\Below B w w'/\Lib.OthersKept 5 none w w':=Any.internal_strconv_AppendUint_10_small afI B n u hu sv xs w hown hBw hlim
open Go.RowKit Go.Sort Go.Lib in
theorem internal_strconv_AppendUint_10_big(B n u:Nat)(hu:100<=u)(hu64:u<18446744073709551616)(sv:Value)(xs:List Value)(w:World)(hown:w.ownsRow B 5 1 sv n xs)(hBw:B<=w.heap.size)(hlim:n+20<=140737488355328)(htab:Lib.TabIs Tryz.prog w "internal/strconv.uint64pow10" .u64 Lib.pow10Tab):
 Calls Tryz.prog 136 #[sv,.int .u64 u,.int .i64 10] w fun e w'=>∃v',e=.returned v'/\w'.ownsRow B 5 1 v' (n+(Lib.decDigits u).length) (xs++Lib.byteCells (Lib.decDigits u))/\Below B w w'/\Lib.OthersKept 5 none w w':=Any.internal_strconv_AppendUint_10_big afI B n u hu hu64 sv xs w hown hBw hlim htab
def aa8:Go.Shelf.Ren:=⟨fun | 105=>100 | 212=>138 | 99=>139 | 165=>93 | 166=>23 | 170=>140 | 169=>30 | 263=>185 | 264=>186 | 206=>187 | 240=>59 | 241=>130 | 276=>92 | 277=>179 | n=>n,fun | 9=>9 | 3=>3 | 4=>4 | 20=>20 | 0=>0 | 46=>173 | 109=>174 | 5=>5 | 72=>56 | 76=>59 | 51=>133 | 146=>217 | 53=>110 | 148=>219 | 70=>54 | 37=>22 | 75=>58 | 127=>106 | 164=>128 | 80=>72 | n=>n,fun | n=>n⟩
theorem anz:Go.Proofs.Lays.n105 Tryz.prog aa8:=shl
theorem zy:Builder.Extra Tryz.prog aa8:=shl
open Go.RowKit Go.Lib in
theorem strings_Repeat(s:ByteArray)(c:Nat)(w:World)(hc:c<=9223372036854775807)(hlen:s.size*c<=140737488355328):
 Calls Tryz.prog 100 #[.string s,.int .i64 c] w fun e w'=>e=.returned (.string ⟨(Lib.repeatL s.data.toList c).toArray⟩)/\Below w.heap.size w w':=Any.strings_Repeat anz zy s c w hc hlen
end Go.Proofs
namespace Go.Proofs.YtinihjgnnlemmaaGreatDoor
open Tryz
open Go.Shelf Go.RowKit Go.Sort Go.Lib
variable{w v W V:World}{n m c d k i j l o b p q t r s g h e:Nat}{a A B:Option Addr}{X Y Z:Nat->Nat}{u U:Value}{f F:Bool}
def Pow(w:World):Prop:=Lib.TabIs Tryz.prog w "internal/strconv.uint64pow10" .u64 Lib.pow10Tab
theorem Pow.stay(h:Pow w)(s:w.S v):Pow v:=tabBelow_of_tabIs h v ⟨s.os,s.tape,s.output,s.size,s.block⟩
theorem ky(h:Below n w v):w.Since n v:=⟨h.os,h.tape,h.output,h.size,h.block⟩
theorem aaV(f:n<18446744073709551616)(s:Pow w):
 Cl 137 #[.int .u64 n,.i 10] w fun e c=>e=.returned (.string ⟨(Lib.decDigits n).toArray⟩)/\w.S c:=by
 by_cases r:n<100
 . go_enter func137,ntmps137;go_wp2_with fail;refine (internal_strconv_small n r _).mono ?_;rintro e c ⟨rfl,rfl⟩;go_wp2;go_ret;exact⟨rfl,aF _ _⟩
 . have m:1<=n:=om;have v:Lib.nDigits n<=20:=(by have:=Lib.numDigits_eq n m f;split at this<;>omega);have p:(Tryz.prog).arrayLen 168=24:=(by simp[Program.arrayLen,underlying168]);have x:∀W,(Instr.sliceAt 168 (.p w.heap.size 0) none (some (.i (Lib.nDigits n:Int))) none).run Tryz.prog W=.ok (.s w.heap.size (Lib.nDigits n) 24) W:=fun W=>by rw[run_sliceAt_array_h W 168 (jj w.heap.size 0) (by simp[Program.arrayLen,Program.elem,underlying168]) .i64 (Lib.nDigits n:Int) om (by rw[p];omega)];go_simp
   have g:=Lib.holds_zero0 w 168 (Lib.nDigits n) om;have l:=internal_strconv_formatBase10 w.heap.size 0 24 n (Array.replicate (Lib.nDigits n) 0) (w.alloc (.o Lib.zeros24 168)) g (by rw[Array.size_replicate];exact Lib.lt_pow_nDigits n) f (by rw[Array.size_replicate];omega);rw[Array.size_replicate] at l;have u:=Lib.hid g;have y:(100:Int)<=n:=om;go_enter func137,ntmps137;go_wp2_with fail;refine (internal_strconv_numDigits n m f _ (Lib.tabIs_alloc s _)).mono ?_;rintro e c ⟨rfl,rfl⟩;go_wp2_with fail;refine l.mono ?_;rintro e c ⟨rfl,k,z,a,rfl,hF⟩;have q:(convert 22 9 (.s w.heap.size (Lib.nDigits n) 24)).run Tryz.prog ((putRow (fun (b:UInt8)=>Value.int .u8 (b.toNat:Int)) (w.alloc (.o Lib.zeros24 168)) w.heap.size 0 a).drewN k)=.ok (.string ⟨(Lib.decDigits n).toArray⟩) ((putRow (fun (b:UInt8)=>Value.int .u8 (b.toNat:Int)) (w.alloc (.o Lib.zeros24 168)) w.heap.size 0 a).drewN k):=by
    have h:=run_convert_bytes_back (P:=Tryz.prog) ((putRow (fun (b:UInt8)=>Value.int .u8 (b.toNat:Int)) (w.alloc (.o Lib.zeros24 168)) w.heap.size 0 a).drewN k) 22 9 5 (jj w.heap.size 0) 24 (Lib.decDigits n) underlying22 underlying5 underlying9 (fun j d=>by
     rw[Lib.row_is_numeral hF j d,Lib.add_plain,World.cell?_drewN];exact cell?_putRow (fun (b:UInt8)=>Value.int .u8 (b.toNat:Int)) _ w.heap.size 0 _ a u.out (by rw[hF.size,Array.size_replicate]) j (by rw[hF.size];rw[Lib.decDigits_length] at d;exact d))
    rw[Lib.decDigits_length] at h;exact h
   obtain⟨t,o⟩:=Lib.fin_at w (.o Lib.zeros24 168) a k 0;have i:w.S ((putRow (fun (b:UInt8)=>Value.int .u8 (b.toNat:Int)) (w.alloc (.o Lib.zeros24 168)) w.heap.size 0 a).drewN k):=(by rw[o];exact ky (Lib.below_grow w.heap.size w zR k t));generalize (putRow (fun (b:UInt8)=>Value.int .u8 (b.toNat:Int)) (w.alloc (.o Lib.zeros24 168)) w.heap.size 0 a).drewN k=W2 at q i⊢;go_wp2;go_ret;exact⟨rfl,i⟩
theorem acv{n:Nat}(c:n<18446744073709551616){w:World}(b:Pow w):
 Cl 99 #[.int .u64 n,.i 10] w fun e a=>e=.returned (.string ⟨(Lib.decDigits n).toArray⟩)/\w.S a:=by
 go_enter func99,ntmps99;go_wp2_with fail;refine mo (aaV c b) fun a s=> ?_;go_wp2;go_ret;exact⟨rfl,s⟩
theorem ac6{n m c:Nat}(q:c<18446744073709551616){u:Value}{l:List UInt8}{w:World}(i:w.ownsRow n 5 1 u m (Lib.byteCells l))(j:n<=w.heap.size)(k:m+20<=140737488355328)(p:Pow w):
 Cl 98 #[u,.int .u64 c,.i 10] w fun e b=>∃d,e=.returned d/\b.ownsRow n 5 1 d (m+(Lib.decDigits c).length) (Lib.byteCells (l++Lib.decDigits c))/\w.Since n b/\Lib.OthersKept 5 none w b:=by
 have J:Cl 136 #[u,.int .u64 c,.i 10] w fun e b=>∃d,e=.returned d/\b.ownsRow n 5 1 d (m+(Lib.decDigits c).length) (Lib.byteCells l++Lib.byteCells (Lib.decDigits c))/\Below n w b/\Lib.OthersKept 5 none w b:=by
  by_cases h:c<100
  . exact internal_strconv_AppendUint_10_small n m c h u _ w i j k
  . exact internal_strconv_AppendUint_10_big n m c om q u _ w i j k p
 obtain⟨a,f,rfl⟩:∃a f,u=.l a m f:=by
  rcases i.2 with ⟨rfl,rfl⟩ | ⟨g,f,r,rfl,-⟩
  . exact⟨none,0,rfl⟩
  . exact⟨_,f,rfl⟩
 go_enter func98,ntmps98;go_wp2_with fail;refine J.mono ?_;rintro e b ⟨d,rfl,o,hb,s⟩;go_wp2;go_ret;exact⟨d,rfl,by rw[show Lib.byteCells (l++Lib.decDigits c)=Lib.byteCells l++Lib.byteCells (Lib.decDigits c) from eJ];exact o,ky hb,s⟩
def qv(N m:Nat):Nat:=N/1000000000^m
theorem ef(n:Nat):qv n 0=n:=by simp[qv]
theorem cE(n m:Nat):qv n (m+1)=qv n m/1000000000:=by rw[qv,qv,iH,mU]
theorem akO(n m:Nat):qv n m=qv n (m+1)*1000000000+qv n m % 1000000000:=by rw[cE];omega
theorem apL(n m:Nat):qv n m<=n:=iV _ _
theorem amV(e:n<2^m)(h:0<qv n c):c<m+1:=by
 have f:1000000000^c<=n:=by
  rcases jI n (1000000000^c) with a | a
  . rw[qv,iI a] at h;omega
  . exact a
 have d:2^c<=1000000000^c:=Nat.pow_le_pow_left om c;have b:2^c<2^m:=om;have:=(Nat.pow_lt_pow_iff_right (a:=2) om).1 b;omega
def ChI(N m:Nat)(C:Nat->Nat):Prop:=(∀j,j<m->C j=qv N j % 1000000000)/\(m=0∨0<qv N (m-1))
theorem amw(h:ChI n m X)(a:0<qv n m)(b:c=qv n m % 1000000000):ChI n (m+1) (mN X m c):=by
 refine⟨fun j d=> ?_,Or.inr (by simpa using a)⟩;by_cases e:j=m
 . subst e;rw[fR];exact b
 . rw[eT _ _ _ _ e];exact h.1 j om
theorem aqe{N:Nat}(h:0<qv N (m+1)):Lib.decDigits (qv N m)=Lib.decDigits (qv N (m+1))++(List.replicate (9-Lib.nDigits (qv N m % 1000000000)) 48++Lib.decDigits (qv N m % 1000000000)):=by
 conv=>lhs;rw[akO N m]
 exact amo h (iS _ om)
theorem apK(h:0<qv n c)(b:m<=c):0<qv n m:=by
 induction c with
 | zero=>rw[show m=0 by omega];exact h
 | succ c ih=>
   by_cases e:m=c+1
   . rw[e];exact h
   . refine ih ?_ om;rw[cE] at h;rcases cQ (qv n c) with a | a
     . rw[a] at h;simp at h
     . exact a
structure aW(a:Option Addr)(c b t cap:Nat)(w wr:World)(k:Nat)(Q:Nat->Nat):Prop where
 cell:wr.cell? ⟨c,0,none⟩=some (.slice a k cap)
 fz:wr.frozen? ⟨c,0,none⟩=false
 limbs:eO wr a b 0 k Q
 fb:∀o,wr.frozen? ⟨b,o,none⟩=false
 os:wr.os=w.os
 tape:wr.tape=w.tape
 output:wr.output=w.output
 size:w.heap.size<=wr.heap.size
 block:∀j,j<w.heap.size->j≠c->j≠b->wr.heap[j]?=w.heap[j]?
 lc:c<w.heap.size
 lb:b<w.heap.size
 ne:c≠b
section
variable{a:Option Addr}{c b t cap k k':Nat}{w wr w1 w2:World}{Q Q2:Nat->Nat}
theorem aW.since(h:aW a c b t cap w wr k Q)(s:wr.S w1):aW a c b t cap w w1 k Q:=
 ⟨(s.cell (a:=jj c 0) (aS h.lc h.size)).trans h.cell,(s.frozen (a:=jj c 0) (aS h.lc h.size)).trans h.fz,h.limbs.aA s,fun o=>(s.frozen (a:=jj b o) (aS h.lb h.size)).trans (h.fb o),
   s.os.trans h.os,s.tape.trans h.tape,s.output.trans h.output,aU h.size s.size,fun j d e f=>(s.block j (aS d h.size)).trans (h.block j d e f),h.lc,h.lb,h.ne⟩
theorem aW.grown{q:Option Nat}(h:aW a c b t cap w wr k Q)(g:wr.grownBy w1 q)(d:∀k,q=some k->w.heap.size<=k):aW a c b t cap w w1 k Q:=by
 have p:some c≠q:=fun e=>by have:=d c e.symm;have:=h.lc;omega
 have hb:some b≠q:=fun e=>by have:=d b e.symm;have:=h.lb;omega
 have f:=g.block c (aS h.lc h.size) p;have eb:=g.block b (aS h.lb h.size) hb
 exact⟨(aO (w:=wr) (a:=jj c 0) f).trans h.cell,(dK (w:=wr) (a:=jj c 0) f).trans h.fz,fun j l=>⟨(h.limbs j l).1,(aO (w:=wr) (a:=jj b (0+j)) eb).trans (h.limbs j l).2⟩,
  fun o=>(dK (w:=wr) (a:=jj b o) eb).trans (h.fb o),g.os.trans h.os,g.tape.trans h.tape,g.output.trans h.output,aU h.size g.size,
  fun j i m n=>(g.block j (aS i h.size) (fun e=>by have:=d j e.symm;omega)).trans (h.block j i m n),h.lc,h.lb,h.ne⟩
theorem aW.divide(h:aW a c b t cap w wr k Q)(M:eM wr w2 b)(g:eO w2 a b 0 k Q2)(m:k'<=k):aW a c b t cap w (w2.setCell ⟨c,0,none⟩ (.slice a k' cap)) k' Q2:=by
 have d:=(eM.refl w2 c).setCell 0 (.l a k' cap);have i:=(M.cell (a:=jj c 0) h.ne).trans h.cell;refine⟨aQ _ _ _ i, ?_, ?_,fun o=> ?_,d.os.trans (M.os.trans h.os),d.tape.trans (M.tape.trans h.tape),d.output.trans (M.output.trans h.output),by rw[d.size,M.size];exact h.size,fun j l e f=>(d.other j e).trans ((M.other j f).trans (h.block j l e f)),h.lc,h.lb,h.ne⟩
 . rw[d.frozen 0,M.bU (a:=jj c 0) h.ne];exact h.fz
 . exact (g.marked d (fun _=>fL h.ne)).take m
 . rw[d.bU (a:=jj b o) (fL h.ne),M.frozen o];exact h.fb o
end
structure Kp(base c b:Nat)(w w':World):Prop where
 os:w'.os=w.os
 tape:w'.tape=w.tape
 output:w'.output=w.output
 size:w.heap.size<=w'.heap.size
 low:∀k,k<base->w'.heap[k]?=w.heap[k]?
 aA:∀k o,w.heap[k]?=some o->k≠c->k≠b->(∀x fz,o≠ .cells x 5 fz)->w'.heap[k]?=some o
theorem Kp.of{w wr:World}(h:aW a c b m d w wr k X)(hb:n<=w.heap.size)(i:n<=c)(j:n<=b):Kp n c b w wr:=
 ⟨h.os,h.tape,h.output,h.size,fun k e=>h.block k om om om,fun k _ e f g _=>(h.block k (dM.1 e).1 f g).trans e⟩
theorem Kp.on(h:Kp n m c w v)(s:v.Since n W)(k:Lib.OthersKept 5 none v W):Kp n m c w W:=
 ⟨s.os.trans h.os,s.tape.trans h.tape,s.output.trans h.output,aU h.size s.size,fun i a=>(s.block i a).trans (h.low i a),fun i o a g j f=>k i o (h.aA i o a g j f) qz f⟩
theorem Kp.refl(n m c:Nat)(w:World):Kp n m c w w:=⟨rfl,rfl,rfl,aC _,fun _ _=>rfl,fun _ _ h _ _ _=>h⟩
theorem Kp.since(h:Kp n m c w v):w.Since n v:=⟨h.os,h.tape,h.output,h.size,h.low⟩
theorem xP{e:TypeId}(s:w.S v):Lib.OthersKept e none w v:=fun k _ a _ _=>(s.block k (dM.1 a).1).trans a
def bE(base:Nat)(w:World):Prop:=Lib.TabBelow Tryz.prog base w "internal/strconv.uint64pow10" .u64 Lib.pow10Tab
theorem bE.on(h:bE n w)(s:w.Since n v):bE n v:=Lib.TabBelow.on h ⟨s.os,s.tape,s.output,s.size,s.block⟩
theorem bE.here(h:bE n w):Pow w:=Lib.TabBelow.here h
def lenOf:Value->Nat
 | .slice _ n _=>n
 | _=>0
theorem apH(n:Nat):Lib.repeatL [48] n=List.replicate n 48:=by
 have:=Lib.repeatL_replicate 48 1 n;simpa using this
theorem ul(l m:List UInt8):Lib.byteCells (l++m)=Lib.byteCells l++Lib.byteCells m:=eJ
theorem xV{l:List UInt8}(s:w.cell? (jj n 0)=some (.l a 0 c))
 (f:w.ownsRow m 5 1 u d (Lib.byteCells l))(r:m<=w.heap.size)(F:d<=1000000000):
 Cl 63 #[.p n 0,u] w fun e j=>∃b,e=.returned b/\Hid (b≠ .n)/\j.ownsRow m 5 1 b (d+1) (Lib.byteCells (l++Lib.decDigits 0))/\w.Since m j/\Lib.OthersKept 5 none w j:=by
 obtain⟨B,t,y,z,A⟩:=kT bN;obtain⟨C,D,rfl⟩:∃a c,u=.l a d c:=by
  rcases f.2 with ⟨rfl,rfl⟩ | ⟨g,c,E,rfl,-⟩
  . exact⟨none,0,rfl⟩
  . exact⟨_,c,rfl⟩
 go_enter func63,ntmps63;go_wp2_with fail;refine (nN s).mono ?_;rintro e p ⟨rfl,rfl⟩;go_wp2_with (at_builtin;refine gK _ rfl _ _ 22 rfl m 5 B (.int .u8 0) 1 1 underlying22 t y z A rfl qd _ _ _ rfl (f.alloc _) (jj p.heap.size 0) 1 1 [.int .u8 48] rfl rfl (iq _ _ _) (one_one _ rfl) (by unfold maxLen;omega) om (by simp;omega) ?_);intro b G v i H;have o:=fA p (.o #[.int .u8 48] 5);have x:=(sM o r).grown i (by simp;omega) (fun k h=>(f.lt k h).1);have h:=(xP o).grown i (Lib.ownsRow_kind (f.alloc _));have q:=eI H;go_wp2;go_ret;refine⟨b,rfl,q, ?_,x,h⟩;rw[ul,Lib.decDigits_one om];exact v
theorem dw{e:TypeId}{a:List Value}(h:w.ownsRow n e m u c a)(f:∀g,u.ownBlock=some g->v.heap[g]?=w.heap[g]?):v.ownsRow n e m u c a:=by
 obtain⟨hl,h | ⟨g,b,j,rfl,hb,d,i⟩⟩:=h
 . exact⟨hl,Or.inl h⟩
 . exact⟨hl,Or.inr ⟨g,b,j,rfl,hb,(f g (by simp[Value.ownBlock])).trans d,i⟩⟩
theorem alu(p:0<n->X (n-1)≠0)(h:lv X n=0):n=0:=by
 rcases cQ n with e | e
 . exact e
 . have:=rj X n e (p e);have:=fX (n:=32*(n-1)) (show 0<2 by omega);omega
theorem aoT(h:0<iy (nz X) n):X (iy (nz X) n-1)≠0:=by
 have:=jh _ _ h;simpa [nz] using this
theorem afD(h:eO w (jp n 0) n 0 m X)(e:v.heap[n]?=w.heap[n]?):eO v (jp n 0) n 0 m X:=
 fun j a=>⟨rfl,(aO (w:=w) (a:=jj n (0+j)) e).trans (h j a).2⟩
theorem de{e:TypeId}{a:List Value}(h:w.ownsRow n e m u c a)(s:w.S v):v.ownsRow n e m u c a:=dw h (fun g b=>s.block g (h.lt g b).2)
theorem akW{e:TypeId}{a:List Value}(h:w.ownsRow n e m u c a)(d:0<c):u≠ .n:=by
 rcases h.2 with ⟨-,e⟩ | ⟨g,b,f,rfl,-⟩
 . omega
 . simp
theorem afe(l:List UInt8):(⟨l.toArray⟩:ByteArray).size=l.length:=by simp[ByteArray.size]
theorem zf{l:List UInt8}(ht:d<=1048576)(h0:0<d)(c1:d<=k)(D0:aW a n m d k w w d X)(ag:∀j,j<d->X j<4294967296)(pX:X (d-1)≠0)
 (aa:w.ownsRow c 5 1 u i (Lib.byteCells l))(a9:u.ownBlock≠some n)(a8:u.ownBlock≠some m)(ah:c<=w.heap.size)(h1:c<=n)(h2:c<=m)(hn:i<=1000000000)(hP:bE c w):
 Cl 63 #[.p n 0,u] w fun e w'=>∃v',e=.returned v'/\Hid (v'≠ .n)/\w'.ownsRow c 5 1 v' (i+(Lib.decDigits (lv X d)).length) (Lib.byteCells (l++Lib.decDigits (lv X d)))/\Kp c n m w w':=by
 obtain⟨i0,hi,bj,bm,bn⟩:=kT bN;obtain⟨j0,I,cd,ce,cf⟩:=kT nF;obtain⟨N,T⟩:∃N,N=lv X d:=⟨_,rfl⟩;have HL:=eI (kI X d ag);rw[<-T] at HL⊢;have az:Hid ((∀j,j<d->X j<4294967296)/\(0<d->X (d-1)≠0)):=eI ⟨ag,fun _=>pX⟩;have ax:Hid (lv X d=qv N 0):=eI (by rw[ef,T])
 have br:Hid (0<N):=eI (by
  rcases cQ N with e | e
  . have:=alu (X:=X) (n:=d) (fun _=>pX) (by rw[<-T];exact e);omega
  . exact e)
 have av:=eI (And.intro h1 h2);have ay:=eI (And.intro a9 a8);clear ag pX T h1 h2 a9 a8;obtain⟨a1,b1,rfl⟩:∃a k,u=.slice a i k:=by
  rcases aa.2 with ⟨rfl,rfl⟩ | ⟨g,k,B,rfl,-⟩
  . exact⟨none,0,rfl⟩
  . exact⟨_,k,rfl⟩
 have c0:((d:Int)==0)=false:=by simp;omega
 go_enter func63,ntmps63;go_wp2_with fail;refine (@nN n 0 a d k w D0.cell).mono ?_;rintro e r ⟨rfl,rfl⟩;have sA:=fA r (.cells #[] 133);have a4:(r.alloc (.cells #[] 133)).ownsRow r.heap.size 133 1 (.s r.heap.size 0 0) 0 (ll (fun _=>0) 0):=iP r #[] 0 zR qd rfl;have DA:=D0.since sA;clear D0 sA;go_wp2;go_loopw [5] (fun v wr=>∃(b t:Nat) (Q C:Nat->Nat),t<=d/\aW a n m d k r wr t Q/\Hid ((∀j,j<t->Q j<4294967296)/\(0<t->Q (t-1)≠0))/\wr.ownsRow r.heap.size 133 1 v b (ll C b)/\Hid (v≠ .n)/\Hid (lv Q t=qv N b)/\Hid (ChI N b C)) (fun v _=>33554440-lenOf v)
 case atStart=>exact⟨0,d,X,fun _=>0,aC _,DA,az,a4,eI qz,ax,eI ⟨fun j I=>absurd I om,Or.inl rfl⟩⟩
 case round=>
  clear DA az a4 ax;obtain⟨b,t,Q,C,hk,D,P,H,O,A,G⟩:=hrel;have hm:b<=33554433:=by
   rcases G.out.2 with h | h
   . omega
   . have:=amV HL.out h;omega
  have ai:=D.cell;go_wp2_with fail;refine (@nN n 0 a t k wr ai).mono ?_;rintro e F ⟨rfl,rfl⟩;by_cases cq:0<t
  . have cr:((t:Int)==0)=false:=(by simp;omega);obtain⟨g3,b2,rfl,cw,cm,co,-,-⟩:=iu H O.out;go_wp2_with fail;refine (@sQ n 0 a m t k 1000000000 Q F om om D.cell D.fz D.limbs P.out.1 (fun _=>D.fb) D.ne om om).mono ?_;rintro e w4 ⟨rfl,M,L,af,L2,l2,e2,rfl⟩;have D2:=D.divide (k':=iy (nz L) t) af L2 (jc _ _);have cc:0<qv N b:=by
     rw[<-A.out];rcases cQ (lv Q t) with e | e
     . have:=alu P.out.2 e;omega
     . exact e
    have Z:Hid (ChI N (b+1) (mN C b (lv Q t % 1000000000))):=eI (amw G.out cc (by rw[A.out]));have bz:Hid (lv L (iy (nz L) t)=qv N (b+1)):=eI (by rw[mC,e2,cE,A.out]);have bs:Hid ((∀j,j<iy (nz L) t->L j<4294967296)/\(0<iy (nz L) t->L (iy (nz L) t-1)≠0)):=eI ⟨fun j I=>l2 j (aS I (jc _ _)),aoT⟩;have b9:iy (nz L) t<=d:=aU (jc _ _) hk;have b7:g3≠n:=(by have:=D.lc;omega);have b6:g3≠m:=by have:=D.lb;omega
    have ak:(M.setCell (jj n 0) (.slice a (iy (nz L) t) k)).ownsRow r.heap.size 133 1 (.s g3 b b2) b (ll C b):=dw H (fun g hg=>by
     simp[Value.ownBlock] at hg;subst hg;exact (((eM.refl M n).setCell 0 (.slice a (iy (nz L) t) k)).other _ b7).trans (af.other _ b6))
    obtain⟨x,p⟩:∃x,x=lv Q t % 1000000000:=⟨_,rfl⟩;have ao:x<1000000000:=(by rw[p];exact iS _ om);rw[<-p] at Z⊢;generalize M.setCell (jj n 0) (.slice a (iy (nz L) t) k)=w5 at*;generalize iy (nz L) t=k2 at*;clear af L2 l2 e2 p H O A G P D ai;have c2:=D2.size;go_wp2_with (at_builtin;refine gK _ rfl _ _ 68 rfl r.heap.size 133 j0 (.int .u32 0) 1 4 underlying68 I cd ce cf rfl qd _ _ _ rfl (ak.alloc _) (jj w5.heap.size 0) 1 1 [.int .u32 x] rfl rfl (iq _ _ _) (one_one _ rfl) (by unfold maxLen;omega) om (by simp;omega) ?_);intro v' w6 aj a7 an;have D6:=(D2.since (yD.alloc zR (.cells #[.int .u32 x] 133))).grown a7 (fun q s=>(ak.lt q s).1);rw[show ll C b++[.int .u32 x]=ll (mN C b x) (b+1) from by rw[tV,fR,dy (fun j I=>eT _ _ _ _ (show j≠b by omega))]] at aj;have bp:=eI an;obtain⟨g7,ci,rfl,-,-,-,-,-⟩:=iu aj an;clear a7 an D2 ak;go_wp2;go_roundw
    case rel=>exact⟨b+1,k2,L,_,b9,D6,bs,aj,bp,bz,Z⟩
    case measure=>simp[lenOf]<;>omega
  . have e:t=0:=om;subst e;have ct:0<b:=by
     rcases cQ b with e | e
     . subst e;have h3:=A.out;rw[ef] at h3;have h4:lv Q 0=0:=rfl;have:=br.out;omega
     . exact e
    have bw:Hid (0<qv N (b-1)):=by
     rcases G.out.2 with h | h
     . omega
     . exact eI h
    have HZ:Hid (qv N b=0):=eI (by rw[<-A.out];rfl);obtain⟨g,cj,rfl,cu,hg,cn,LC,-⟩:=iu H O.out;obtain⟨B,a6⟩:∃B,F.heap[g]?=some (.cells B 133 (0,0)):=by
     rcases H.2 with ⟨e,-⟩ | ⟨g',ch,B,e,-,hh,-⟩
     . cases e
     . cases e;exact⟨B,hh⟩
    have S:Kp c n m r F:=Kp.of D ah av.out.1 av.out.2;have bc:F.ownsRow c 5 1 (.slice a1 i b1) i (Lib.byteCells l):=dw aa (fun q s=>D.block q (aa.lt q s).2 (fun e=>ay.out.1 (by rw[s,e])) (fun e=>ay.out.2 (by rw[s,e])));have P2:=hP.on S.since;have ad:=eI G.out.1;have U:c<=F.heap.size:=aU ah S.size;obtain⟨x,p⟩:∃x,x=C (b-1):=⟨_,rfl⟩
    have Z:Hid (x=qv N (b-1)):=eI (by
     rw[p,ad.out (b-1) om];have h5:=cE N (b-1);rw[show b-1+1=b by omega,HZ.out] at h5;omega)
    have ao:x<1000000000:=(by rw[p,ad.out (b-1) om];exact iS _ om);have g0:F.cell? (jj g (b-1))=some (.int .u32 x):=(by rw[p];simpa using (LC (b-1) om).2);clear H O G A D aa hP ai P p;have cx:(0:Int)<=((b-1:Nat):Int):=om;have cy:((b:Int)-1)=((b-1:Nat):Int):=om;have cz:((b-1:Nat):Int)<b:=om;go_wp2_with fail;refine (@ac6 c i x om _ l F bc U om P2.here).mono ?_;rintro e M ⟨v3,rfl,Y,s3,k3⟩;have K3:=S.on s3 k3;have P3:=P2.on s3;have a5:M.heap[g]?=some (.cells B 133 (0,0)):=k3 g _ a6 qz (fun x fz h=>by cases h);rw[Z.out] at Y;have am:∀f,(Lib.decDigits (qv N f)).length<=33554433:=fun f=>by rw[Lib.decDigits_length];have:=xJ (dD (apL N f) HL.out);omega
    have ca:=am (b-1);obtain⟨y3,aq⟩:∃y,y=i+(Lib.decDigits (qv N (b-1))).length:=⟨_,rfl⟩;rw[<-aq] at Y;have ar:y3<=1100000000:=om;have a0:=eI aq;have bo:=eI am;clear aq ca am s3 k3 bc S P2 U g0 ao Z;go_wp2;go_loopw [1,7] (fun v d wr=>∃(f:Nat) (z:Int) (y:Nat),f<=b-1/\d=.i z/\Hid (z=(f:Int)-1)/\y<=1100000000/\wr.ownsRow c 5 1 v y (Lib.byteCells (l++Lib.decDigits (qv N f)))/\Hid (y=i+(Lib.decDigits (qv N f)).length)/\wr.heap[g]?=some (.cells B 133 (0,0))/\Kp c n m r wr/\bE c wr) (fun _ d _=>(RowKit.intOf d+1).toNat)
    case atStart=>exact⟨b-1,_,y3,aC _,rfl,eI rfl,ar,Y,a0,a5,K3,P3⟩
    case round=>
     clear Y K3 P3 ar a0 a5;obtain⟨f,z,y,b8,rfl,R,ar,W,HY,hc,ae,PB⟩:=hrel;have U:=aU ah ae.size;have a3:=afD LC (hc.trans a6.symm);by_cases cp:0<f
     . have au:z=((f-1:Nat):Int):=(by have:=R.out;omega);clear R;subst au;have c4:(0:Int)<=((f-1:Nat):Int):=om;have c3:((f-1:Nat):Int)<b:=om;obtain⟨x,p⟩:∃x,x=C (f-1):=⟨_,rfl⟩;have Z:Hid (x=qv N (f-1) % 1000000000):=eI (by rw[p];exact ad.out (f-1) om);have ao:x<1000000000:=(by rw[Z.out];exact iS _ om);have g0:wr.cell? (jj g (f-1))=some (.int .u32 x):=(by rw[p];simpa using (a3 (f-1) om).2);clear p a3;go_wp2_with fail;refine mo (@acv x om wr PB.here) fun w4 s4=> ?_;have ck:Lib.nDigits x<=9:=apW om om;have b4:=Lib.decDigits_length x;go_wp2_with fail;rw[show (9:Int)-(Lib.nDigits x:Int)=((9-Lib.nDigits x:Nat):Int) by omega];have cl:=Lib.nDigits_pos x;refine mo (strings_Repeat ⟨#[48]⟩ (9-Lib.nDigits x) w4 om (by show 1*_<=_;omega)) fun w5 b5=> ?_;rw[show Lib.repeatL (⟨#[48]⟩:ByteArray).data.toList (9-Lib.nDigits x)=List.replicate (9-Lib.nDigits x) 48 from apH _];have s5:=ky b5;have c5:=de (de W s4) s5;have ac:=s4.tr s5;have k5:Lib.OthersKept 5 none wr w5:=xP ac;have z5:wr.heap.size<=w5.heap.size:=ac.size;obtain⟨o,ab⟩:∃o,o=List.replicate (9-Lib.nDigits x) (48:UInt8):=⟨_,rfl⟩;have bf:o.length=9-Lib.nDigits x:=(by rw[ab];simp);rw[<-ab];have bu:=eI ab;clear ab b5 s4 s5;have bh:=afe o;have bi:=afe (Lib.decDigits x);go_wp2_with (at_builtin;refine Lib.wpList_append_own_string _ rfl _ _ 22 9 rfl c 5 i0 underlying22 underlying9 hi bj bm bn _ _ _ rfl c5 ⟨o.toArray⟩ rfl (by rw[bh];unfold maxLen;omega) (by rw[bh];omega) om ?_);intro v6 w6 E V _;have s6:wr.Since c w6:=(sM ac U).grown V om (fun q s=>(c5.lt q s).1);have k6:=k5.grown V (Lib.ownsRow_kind c5);have z6:=V.size;have ba:w6.ownsRow c 5 1 v6 (y+o.length) (Lib.byteCells (l++Lib.decDigits (qv N f)++o)):=by
        rw[ul,bf];exact E
       clear c5 V ac k5 E;have E:=ba;clear ba;go_wp2_with (at_builtin;refine Lib.wpList_append_own_string _ rfl _ _ 22 9 rfl c 5 i0 underlying22 underlying9 hi bj bm bn _ _ _ rfl E ⟨(Lib.decDigits x).toArray⟩ rfl (by rw[bi];unfold maxLen;omega) (by rw[bi];omega) om ?_);intro v7 w7 K al _;have s7:wr.Since c w7:=s6.grown al om (fun q s=>(E.lt q s).1);have k7:=k6.grown al (Lib.ownsRow_kind E);have bb:w7.ownsRow c 5 1 v7 (y+o.length+(Lib.decDigits x).length) (Lib.byteCells (l++Lib.decDigits (qv N f)++o++Lib.decDigits x)):=(by rw[ul _ (Lib.decDigits x),b4];rw[bf,dZ l];exact K);clear K;have K:=bb;clear bb
       have aw:Hid (Lib.decDigits (qv N (f-1))=Lib.decDigits (qv N f)++(o++Lib.decDigits x)):=eI (by
        have h7:=aqe (N:=N) (m:=f-1) (by rw[show f-1+1=f by omega];exact apK bw.out b8);rw[show f-1+1=f by omega,<-Z.out,<-bu.out] at h7;exact h7)
       have cb:w7.ownsRow c 5 1 v7 (y+o.length+(Lib.decDigits x).length) (Lib.byteCells (l++Lib.decDigits (qv N (f-1)))):=by rw[aw.out,<-dZ,<-dZ];exact K
       have a2:Hid (y+o.length+(Lib.decDigits x).length=i+(Lib.decDigits (qv N (f-1))).length):=eI (by
        rw[aw.out,HY.out];simp;omega)
       have cg:y+o.length+(Lib.decDigits x).length<=1100000000:=(by have h8:=bo.out (f-1);have h9:=a2.out;omega);have b3:=k7 g _ hc qz (fun x fz h=>by cases h);have K8:=ae.on s7 k7;have b0:=PB.on s7;clear K E al s6 k6 s7 k7;go_wp2;go_roundw
       case rel=>exact⟨f-1,((f-1:Nat):Int)-1,_,om,by go_num,eI rfl,cg,cb,a2,b3,K8,b0⟩
       case measure=>simp[RowKit.intOf]<;>omega
     . have au:z=-1:=(by have:=R.out;omega);clear R;subst au;have e:f=0:=om;subst e;have bq:=eI (akW W (by have:=HY.out;have:=Lib.nDigits_pos (qv N 0);rw[<-Lib.decDigits_length] at this;omega));have e0:=HY.out;rw[ef] at W e0;subst e0;go_wp2;go_ret;exact⟨_,rfl,bq,W,ae⟩
def KdT(w:World)(v:Value):Prop:=∀g,bk v=some g->∃cur T fz,w.heap[g]?=some (.cells cur T fz)/\T≠5
theorem KdT.undef(w:World):KdT w undef:=fun g h=>by cases h
theorem KdT.since(h:KdT w u)(s:w.S v):KdT v u:=fun g e=>by
 obtain⟨b,T,c,a,d⟩:=h g e;exact⟨b,T,c,(s.block g (dM.1 a).1).trans a,d⟩
theorem KdT.set(h:KdT w u)(n:Nat)(U:Value):KdT (w.setCell ⟨n,0,none⟩ U) u:=fun g e=>by
 obtain⟨a,T,b,d,f⟩:=h g e
 by_cases i:g=n
 . subst i
   refine⟨a.setIfInBounds 0 U,T,b, ?_,f⟩
   simp[World.setCell,Array.getElem?_modify,d]
 . exact⟨a,T,b,(fN _ _ _ _ i).trans d,f⟩
theorem KdT.own{c:List Value}(h:w.ownsRow n 133 1 u m c):KdT w u:=fun g e=>by
 rcases h.2 with ⟨rfl,-⟩ | ⟨f,d,a,rfl,-,b,-⟩
 . cases e
 . cases e
   exact⟨a,_,_,b,by decide⟩
theorem KdT.box(w:World)(u:Value):KdT (w.alloc (.cells #[u] 102)) (.p w.heap.size 0):=fun g e=>by
 cases e;exact⟨#[u],_,(0,0),heap_alloc_new w _,by decide⟩
def Kd4(w:World)(a b c d:Value):Prop:=KdT w a/\KdT w b/\KdT w c/\KdT w d
theorem Kd4.since{c d:Value}(h:Kd4 w u U c d)(s:w.S v):Kd4 v u U c d:=⟨h.1.since s,h.2.1.since s,h.2.2.1.since s,h.2.2.2.since s⟩
theorem Kd4.set{c d:Value}(h:Kd4 w u U c d)(n:Nat)(a:Value):Kd4 (w.setCell ⟨n,0,none⟩ a) u U c d:=⟨h.1.set n a,h.2.1.set n a,h.2.2.1.set n a,h.2.2.2.set n a⟩
theorem Kd4.start(w:World):Kd4 w undef undef undef undef:=⟨.undef _,.undef _,.undef _,.undef _⟩
structure Bt(w:World)(c b t cap:Nat)(a:Option Addr)(X:Nat->Nat):Prop where
 c0:w.cell? ⟨c,0,none⟩=some (.slice a t cap)
 f0:w.frozen? ⟨c,0,none⟩=false
 L:eO w a b 0 t X
 fb:0<t->∀o,w.frozen? ⟨b,o,none⟩=false
 kc:∃cur T fz,w.heap[c]?=some (.cells cur T fz)/\T≠5
 kb:0<t->∃cur T fz,w.heap[b]?=some (.cells cur T fz)/\T≠5
section
variable{w w':World}{c b t cap base d g:Nat}{a:Option Addr}{X:Nat->Nat}
theorem Bt.lc(h:Bt w c b t cap a X):c<w.heap.size:=by
 obtain⟨e,T,f,d,-⟩:=h.kc;exact (dM.1 d).1
theorem Bt.lb(h:Bt w c b t cap a X)(d:0<t):b<w.heap.size:=by
 obtain⟨f,T,g,e,-⟩:=h.kb d;exact (dM.1 e).1
theorem Bt.kept(h:Bt w c b t cap a X)(e:w'.heap[c]?=w.heap[c]?)(f:0<t->w'.heap[b]?=w.heap[b]?):Bt w' c b t cap a X:=
 ⟨(aO (w:=w) (a:=jj c 0) e).trans h.c0,(dK (w:=w) (a:=jj c 0) e).trans h.f0,fun j g=>⟨(h.L j g).1,(aO (w:=w) (a:=jj b (0+j)) (f om)).trans (h.L j g).2⟩,
   fun d o=>(dK (w:=w) (a:=jj b o) (f d)).trans (h.fb d o),by rw[e];exact h.kc,fun d=>by rw[f d];exact h.kb d⟩
theorem cg{o:Option Obj}{c:Array Value}{T:TypeId}{a:Nat×Nat}(d:o=some (.cells c T a))(f:T≠5):∃b,o=some b/\∀x a,b≠ .cells x 5 a:=
 ⟨_,d,fun x a e=>by cases e;exact f rfl⟩
theorem Bt.others(h:Bt w c b t cap a X)(k:Lib.OthersKept 5 none w w'):Bt w' c b t cap a X:=by
 refine h.kept ?_ (fun m=> ?_)
 . obtain⟨j,T,l,d,f⟩:=h.kc;obtain⟨i,e,g⟩:=cg d f;exact (k c i e qz g).trans e.symm
 . obtain⟨j,T,l,d,f⟩:=h.kb m;obtain⟨i,e,g⟩:=cg d f;exact (k b i e qz g).trans e.symm
theorem Bt.kp(h:Bt w c b t cap a X)(k:Kp base d g w w')(p:c≠d)(q:c≠g)(r:b≠d)(s:b≠g):Bt w' c b t cap a X:=by
 refine h.kept ?_ (fun o=> ?_)
 . obtain⟨m,T,n,j,l⟩:=h.kc;obtain⟨i,e,f⟩:=cg j l;exact (k.aA c i e p q f).trans e.symm
 . obtain⟨m,T,n,j,l⟩:=h.kb o;obtain⟨i,e,f⟩:=cg j l;exact (k.aA b i e r s f).trans e.symm
end
theorem rx{l:List UInt8}(I:d<=1048576)(K:d<=k)(B:Bt w n m d k a X)(F:∀j,j<d->X j<4294967296)(L:0<d->X (d-1)≠0)(G:n≠m)
 (f:w.ownsRow c 5 1 u i (Lib.byteCells l))(r:c<=w.heap.size)(C:c<=n)(D:c<=m)(t:i<=1000000000)(E:bE c w):
 Cl 63 #[.p n 0,u] w fun e h=>∃b,e=.returned b/\Hid (b≠ .n)/\h.ownsRow c 5 1 b (i+(Lib.decDigits (lv X d)).length) (Lib.byteCells (l++Lib.decDigits (lv X d)))/\Kp c n m w h:=by
 have v:∀q,(∃g T p,w.heap[q]?=some (.cells g T p)/\T≠5)->u.ownBlock≠some q:=fun q ⟨g,T,p,z,A⟩ e=>by obtain⟨M,N,o⟩:=Lib.ownsRow_kind f q e;rw[z] at o;cases o;exact A rfl
 rcases cQ d with e | e
 . subst e;refine (xV B.c0 f r t).mono ?_;rintro e h ⟨b,rfl,x,H,s,O⟩;refine⟨b,rfl,x, ?_,(Kp.refl c n m w).on s O⟩;have y:lv X 0=0:=rfl;rw[y,Lib.decDigits_length,Lib.nDigits_small om];exact H
 . exact zf I e K ⟨B.c0,B.f0,B.L,B.fb e,rfl,rfl,rfl,aC _,fun _ _ _ _=>rfl,B.lc,B.lb e,G⟩ F (L e) f (v n B.kc) (v m (B.kb e)) r C D t E
theorem J.gd2{q r O y P z:Value}(h:J w u U n m X Y true true true true true true true true q r O y P z v)(k:Kd4 v q r y z)(H:∀j,j<n->X j<4294967296)(I:∀j,j<m->Y j<4294967296)(K:0<n->X (n-1)≠0)(L:0<m->Y (m-1)≠0):
 ∃c d b a f e i g,q=.p c 0/\r=.p d 0/\Gd w.heap.size w v c d b a f e n m i g X Y/\Bt v c b n i f X/\Bt v d a m g e Y:=by
 obtain⟨c,d,b,a,f,e,i,g,l,o,G⟩:=h.gd H I K L;obtain⟨Q,M,t,-,-⟩:=h.h4 rfl;obtain⟨R,x,s,-,-⟩:=h.h5 rfl;rw[l] at M;rw[o] at x;cases M;cases x;rw[aY rfl] at t s;have A:=Option.some.inj (t.symm.trans G.bC);have B:=Option.some.inj (s.symm.trans G.bD);obtain⟨C,D,E,F⟩:=k;refine⟨c,d,b,a,f,e,i,g,l,o,G,⟨G.bC,G.fC,G.LX,G.FX,C c (by rw[l];rfl),fun p=>E b (by rw[A,(G.LX 0 p).1];rfl)⟩,⟨G.bD,G.fD,G.LY,G.FY,D d (by rw[o];rfl),fun p=>F a (by rw[B,(G.LY 0 p).1];rfl)⟩⟩
def aX(p0 l0 l1 p2 l2 l3 l4 l5 l6 l7:Bool):Nat->Bool
 | 0=> !p0
 | 1=>p0&& !l0
 | 2=>l0&& !l1&& !l6&& !l3
 | 3=> !p2
 | 4=>p2&& !l2
 | 5=>l1&&l2&& !l3&& !l7
 | 6=> !l4&& !l6
 | 7=> !l5&& !l7
 | 8=>l4&&l1&&l3&&l5&& !l6
 | 9=>l6&&l5&&l3&& !l7
 | _=>false
def vh(p0 l0 l1 p2 l2 l3 l4 l5 l6 l7:Bool):Nat:=(!p0).toNat+(!l0).toNat+(!l1).toNat+(!p2).toNat+(!l2).toNat+(!l3).toNat+(!l4).toNat+(!l5).toNat+(!l6).toNat+(!l7).toNat
theorem agB(bu:0<=w.heap.size)(hn:c<=1048576)(hm:j<=1048576)(bm:c<=d)(bj:j<=l)(bc:a=none->d=0)(bf:A=none->l=0)
 (hX:eO w a n m c X)(hY:eO w A k i j Y)(ax:∀b,b<c->X b<4294967296)(a9:∀b,b<j->Y b<4294967296)(bs:Tab w)(hP:Pow w)(Z:gu f X c Y j=true):
 Cl 29 #[.agg #[.bool f,.slice a c d,.slice A j l]] w fun e w'=>e=.returned (.string ⟨(jG f (lv X c) (lv Y j)).toArray⟩)/\w.S w':=by
 obtain⟨i0,hi,a0,a1,a2⟩:=kT bN;have sA:=fA w (.o #[.bool f,.l a c d,.l A j l] 70);have bA:=eS.new w (.bool f) (.l a c d) (.l A j l) 70;have pX:0<c->X (c-1)≠0:=by unfold gu at Z;simp only[fT,nG] at Z;exact ks.1 Z.1.1.1.1
 have pY:0<j->Y (j-1)≠0:=by unfold gu at Z;simp only[fT,nG] at Z;exact ks.1 Z.1.1.1.2
 have S2:=sA;have K2:=bA;have PW:bE (w.alloc (.o #[.bool f,.l a c d,.l A j l] 70)).heap.size (w.alloc (.o #[.bool f,.l a c d,.l A j l] 70)):=tabBelow_of_tabIs (hP.stay S2);go_enter func29,ntmps29;generalize hW:w.alloc _=g at*;clear sA bA hP Z;have t3:=fA g (.o #[] 5);have o3:(g.alloc (.o #[] 5)).ownsRow g.heap.size 5 1 (.s g.heap.size 0 0) 0 (Lib.byteCells []):=iP g #[] 0 zR qd rfl;have K3:=K2.aA t3;have S3:=S2.tr t3;have k0:=K3.c0;have k1:=K3.c1;have k2:=K3.c2;obtain⟨U,al⟩:∃aa:List UInt8,(if f then [45] else [])=aa:=⟨_,rfl⟩;have bw:U.length<=1:=by rw[<-al];split<;>decide
 have af:=eI al;clear al;go_upto_if 8 with fail;go_cut [3] from 6 to 11 (fun br D=>D.ownsRow g.heap.size 5 1 br U.length (Lib.byteCells U)/\g.S D)
 case first=>
  cases f
  . obtain rfl:[]=U:=af.out;go_wp2;go_meet
    case rel=>exact⟨o3,t3⟩
  . obtain rfl:[45]=U:=af.out;have z3:g.heap.size+1=(g.alloc (.o #[] 5)).heap.size:=(by simp);have nc:∀b a3,[Value.int .u8 45][b]?=some a3->((g.alloc (.o #[] 5)).alloc (.o #[.int .u8 45] 5)).cell? (((jj (g.heap.size+1) 0):Addr).add b)=some a3:=(by rw[z3];exact iq _ _ _);have o4:((g.alloc (.o #[] 5)).alloc (.o #[.int .u8 45] 5)).ownsRow g.heap.size 5 1 (.s g.heap.size 0 0) 0 (Lib.byteCells []):=o3.alloc _;clear z3;go_wp2_with (at_builtin;refine gK _ rfl _ _ 22 rfl g.heap.size 5 i0 (.int .u8 0) 1 1 underlying22 hi a0 a1 a2 rfl qd _ _ _ rfl o4 (jj (g.heap.size+1) 0) 1 1 [.int .u8 45] rfl rfl nc (one_one _ rfl) (by unfold maxLen;omega) om (by simp;omega) ?_);intro vo wB oB gB aq;have t4:g.S ((g.alloc (.o #[] 5)).alloc (.o #[.int .u8 45] 5)):=t3.alloc t3.size _;have V:g.S wB:=t4.grown gB (by simp;omega) (fun ar u=>(o4.lt ar u).1);clear K3 S3 o3 t3 t4 gB aq o4 nc;go_wp2;go_meet
    case rel=>exact⟨oB,V⟩
 case rest=>
  clear K3 S3 o3 t3 k0 k1 k2;obtain⟨oB,V⟩:=hcut;have W:=S2.tr V;have KB:=K2.aA V;have XB:=hX.aA W;have YB:=hY.aA W;clear hX hY K2;go_wp2;refine wp_region_any kr ?_;change wpAny _ _ _ _ _ _ _ (World.drew _);have b1:wc.drew.cell? (jj w.heap.size 1)=some (.l a c d):=KB.c1;have b2:wc.drew.cell? (jj w.heap.size 2)=some (.l A j l):=KB.c2;have XD:eO wc.drew a n m c X:=XB;have YD:eO wc.drew A k i j Y:=YB;have zD:w.heap.size<wc.drew.heap.size:=KB.lt;have SD:w.S wc.drew:=⟨W.os,W.tape,W.output,W.size,W.block⟩;have OD:wc.drew.ownsRow g.heap.size 5 1 u3 U.length (Lib.byteCells U):=World.ownsRow.drew oB;have TD:g.S wc.drew:=⟨V.os,V.tape,V.output,V.size,V.block⟩;clear KB XB YB W oB V;generalize wc.drew=wD at*
  refine zL (fun aj aa ac D=>∃B v q C x y h r s z O P Q S M R T N,aa= #[B,v,q,C,x,y,h,r,s,z]/\aj=vh B v q C x y h r s z/\okl q y h r s z=true/\
   ac={ tmps:= #[Value.agg #[Value.bool f,Value.slice a c d,Value.slice A j l],Value.pointer (some { block:=w.heap.size,off:=0 }),Value.string { data:= #[] },u3,O,P,u6,u7,u8,u9,u10,u11,Q,S,M,R,T,N,undef,undef,undef,undef,undef,undef,undef,undef,undef,undef,undef],defers:=[] }/\(B=true->Q=.p w.heap.size 1)/\(C=true->R=.p w.heap.size 2)/\
   J wD (.l a c d) (.l A j l) (iy (nz X) c) (iy (nz Y) j) X Y v q x y h r s z O P S M T N D/\Kd4 D O P M N) ?_ ?_ ?_ _ _ _ _ ⟨_,_,_,_,_,_,_,_,_,_,_,_,_,_,_,_,_,_,rfl,rfl,rfl,rfl,(fun ak=>by cases ak),(fun ak=>by cases ak),J.start _ _ _ _ _ _ _ _ _,Kd4.start _⟩
  . rintro aj aa ac D ⟨B,v,q,C,x,y,h,r,s,z,O,P,Q,S,M,R,T,N,rfl,F,u,rfl,H,I,b,E⟩ ag hi;have p:aX B v q C x y h r s z ag=true:=by
     revert ag;refine tO.1 ?_;revert u;clear F b H I E;revert B v q C x y h r s z;exact iD kr
    have k1:D.cell? (jj w.heap.size 1)=some (.l a c d):=(by rw[b.S.cell (a:=jj w.heap.size 1) zD];exact b1);have k2:D.cell? (jj w.heap.size 2)=some (.l A j l):=(by rw[b.S.cell (a:=jj w.heap.size 2) zD];exact b2);have kX:=XD.aA b.S;have kY:=YD.aA b.S;clear hi;rcases ag with _ | _ | _ | _ | _ | _ | _ | _ | _ | _ | ag
    . simp[aX] at p;subst p;refine⟨_,rfl,fun K t=> ?_⟩;go_simp;refine t _ _ ⟨true,v,q,C,x,y,h,r,s,z,O,P,_,S,M,R,T,N,rfl, ?_,u,rfl,fun _=>rfl,I,b,E⟩;simp[vh] at F⊢;omega
    . simp[aX] at p;obtain⟨rfl,rfl⟩:=p;have e:=H rfl;subst e;refine⟨_,rfl,fun K t=> ?_⟩;go_simp;refine t _ _ ⟨true,true,q,C,x,y,h,r,s,z,O,P,_,_,M,R,T,N,rfl, ?_,u,rfl,fun _=>rfl,I,b.op0,E⟩;simp[vh] at F⊢;omega
    . simp[aX] at p;obtain⟨⟨⟨rfl,rfl⟩,rfl⟩,rfl⟩:=p;have e:=b.h0 rfl;subst e;refine⟨_,rfl,fun K t=> ?_⟩;go_simp;refine (ri om bm bc kX).mono ?_;rintro e w' ⟨au,rfl,o,ae⟩;have L:=E.since ae;refine t _ _ ⟨B,true,true,C,x,false,h,r,false,z,O,P,Q,_,au,R,T,N,rfl, ?_, ?_,rfl,H,I,b.op1 ae (uU o).1 (uU o).2,⟨L.1,L.2.1,KdT.own o,L.2.2.2⟩⟩
      . simp[vh] at F⊢;omega
      . simpa [okl] using u
    . simp[aX] at p;subst p;refine⟨_,rfl,fun K t=> ?_⟩;go_simp;refine t _ _ ⟨B,v,q,true,x,y,h,r,s,z,O,P,Q,S,M,_,T,N,rfl, ?_,u,rfl,H,fun _=>rfl,b,E⟩;simp[vh] at F⊢;omega
    . simp[aX] at p;obtain⟨rfl,rfl⟩:=p;have e:=I rfl;subst e;refine⟨_,rfl,fun K t=> ?_⟩;go_simp;refine t _ _ ⟨B,v,q,true,true,y,h,r,s,z,O,P,Q,S,M,_,_,N,rfl, ?_,u,rfl,H,fun _=>rfl,b.op2,E⟩;simp[vh] at F⊢;omega
    . simp[aX] at p;obtain⟨⟨⟨rfl,rfl⟩,rfl⟩,rfl⟩:=p;have e:=b.h2 rfl;subst e;refine⟨_,rfl,fun K t=> ?_⟩;go_simp;refine (ri om bj bf kY).mono ?_;rintro e w' ⟨au,rfl,o,ae⟩;have L:=E.since ae;refine t _ _ ⟨B,v,true,C,true,true,h,r,s,false,O,P,Q,S,M,R,_,au,rfl, ?_, ?_,rfl,H,I,b.op3 ae (uU o).1 (uU o).2,⟨L.1,L.2.1,L.2.2.1,KdT.own o⟩⟩
      . simp[vh] at F⊢;omega
      . revert u;cases s<;>cases h<;>cases r<;>decide
    . simp[aX] at p;obtain⟨rfl,rfl⟩:=p;refine⟨_,rfl,fun K t=> ?_⟩;go_simp;have L:=E.since ((aF D.heap.size D).alloc zR (.o #[.n] 102));refine t _ _ ⟨B,v,q,C,x,y,true,r,false,z,_,P,Q,S,M,R,T,N,rfl, ?_, ?_,rfl,H,I,b.op4 102,⟨KdT.box _ _,L.2.1,L.2.2.1,L.2.2.2⟩⟩
      . simp[vh] at F⊢;omega
      . simpa [okl] using u
    . simp[aX] at p;obtain⟨rfl,rfl⟩:=p;refine⟨_,rfl,fun K t=> ?_⟩;go_simp;have L:=E.since ((aF D.heap.size D).alloc zR (.o #[.n] 102));refine t _ _ ⟨B,v,q,C,x,y,h,true,s,false,O,_,Q,S,M,R,T,N,rfl, ?_, ?_,rfl,H,I,b.op5 102,⟨L.1,KdT.box _ _,L.2.2.1,L.2.2.2⟩⟩
      . simp[vh] at F⊢;omega
      . revert u;cases s<;>cases h<;>cases q<;>cases y<;>decide
    . simp[aX] at p;obtain⟨⟨⟨⟨rfl,rfl⟩,rfl⟩,rfl⟩,rfl⟩:=p;obtain⟨ah,e5,c1,c2,c3⟩:=b.h4 rfl;obtain⟨xa,xg,xc,ai,-⟩:=sF (b.h1 rfl) b.B21 D.heap.size b.S.size zR;subst e5 ai;rw[aM qz] at c1;refine⟨_,rfl,fun K t=> ?_⟩;go_simp;refine t _ _ ⟨B,v,true,C,x,true,true,true,true,z,_,P,Q,S,_,R,T,N,rfl, ?_, ?_,rfl,H,I,b.op6 rfl,E.set _ _⟩
      . simp[vh] at F⊢;omega
      . simp[okl]
    . simp[aX] at p;obtain⟨⟨⟨rfl,rfl⟩,rfl⟩,rfl⟩:=p;obtain⟨ah,e5,c1,c2,c3⟩:=b.h5 rfl;obtain⟨xa,xg,xc,ai,-⟩:=sF (b.h3 rfl) b.B23 D.heap.size b.S.size zR;subst e5 ai;rw[aM qz] at c1;refine⟨_,rfl,fun K t=> ?_⟩;go_simp;refine t _ _ ⟨B,v,q,C,x,true,h,true,true,true,O,_,Q,S,M,R,T,_,rfl, ?_, ?_,rfl,H,I,b.op7 rfl,E.set _ _⟩
      . simp[vh] at F⊢;omega
      . simpa [okl] using u
    . cases p
  . rintro aa ac D ⟨B,v,q,C,x,y,h,r,s,z,O,P,Q,S,M,R,T,N,rfl,F,u,rfl,H,I,b,E⟩;revert F;clear u b H I E;revert B v q C x y h r s z;exact iD kr
  . rintro aj aa ac D ⟨B,v,q,C,x,y,h,r,s,z,O,P,Q,S,M,R,T,N,rfl,F,u,rfl,H,I,b,E⟩ he;have ay:(B&&(v&&(q&&(C&&(x&&(y&&(h&&(r&&(s&&z)))))))))=true:=by
     revert he;clear F b H I E;revert u;revert B v q C x y h r s z;exact iD kr
    simp only[fT] at ay;obtain⟨rfl,rfl,rfl,rfl,rfl,rfl,rfl,rfl,rfl,rfl⟩:=ay;rw[ab9 pX,ab9 pY] at b;have a7:=H rfl;have a8:=I rfl;subst a7 a8;obtain⟨ah,a6,gn,gm,an,am,cn,cm,rfl,rfl,G,BT,BB⟩:=b.gd2 E ax a9 pX pY;clear H I E he F u;have sx:=b.S;have ox:D.ownsRow g.heap.size 5 1 u3 U.length (Lib.byteCells U):=de OD sx;have Sx:=SD.tr sx;have Tx:=TD.tr sx;have Px:bE g.heap.size D:=PW.on Tx;have aw:=Tx.size;have bn:g.heap.size<=ah:=aU TD.size G.hc;have bo:g.heap.size<=a6:=aU TD.size G.hd;have bp:g.heap.size<=gn:=aU TD.size G.hn;have bq:g.heap.size<=gm:=aU TD.size G.hm;clear b b1 b2 XD YD zD OD sx TD SD;go_wp2_with fail;refine (rx om G.nX BT G.lX G.pX (fL G.d3) ox aw bn bp om Px).mono ?_;rintro e w5 ⟨v5,rfl,a4,o5,ab⟩;have S5:=Sx.trans (sM ab.since (aU S2.size zR));have P5:=Px.on ab.since;have B5:=BB.kp ab (fL G.d1) (fL G.d4) G.d5 (fL G.d2);have z5:g.heap.size<=w5.heap.size:=aU aw ab.size;have bi:=apu hn ax;clear ox ab BT BB Px Sx Tx;obtain⟨n5,ao⟩:∃n5,n5=U.length+(Lib.decDigits (lv X c)).length:=⟨_,rfl⟩;rw[<-ao] at o5;have HN:=eI ao;have bz:n5<=33554434:=om;clear ao bi;have az:=B5.c0;go_wp2_with fail;refine (jz az B5.L G.lY G.pY).mono ?_;rintro e w6 ⟨rfl,rfl⟩;by_cases h1:lv Y j=1
    . have ad:decide (lv Y j=1)=true:=(by simp[h1]);have HD:=eI h1;rw[ad];obtain⟨g7,c7,rfl,bh⟩:=og o5 a4.out (by rw[HN.out];simp);clear h1 ad;go_wp2;go_ret;refine⟨?_,S5⟩;have hD:=HD.out;simp[jG,hD,af.out]
    . have ad:decide (lv Y j=1)=false:=(by simp[h1]);have HD:=eI h1;rw[ad];clear h1 ad;go_wp2_with (at_builtin;refine gK _ rfl _ _ 22 rfl g.heap.size 5 i0 (.int .u8 0) 1 1 underlying22 hi a0 a1 a2 rfl qd _ _ _ rfl (o5.alloc _) (jj w6.heap.size 0) 1 1 [.int .u8 47] rfl rfl (iq _ _ _) (one_one _ rfl) (by unfold maxLen;omega) om (by simp;omega) ?_);intro v7 w7 o7 g7 aq;have t7:=fA w6 (.o #[.int .u8 47] 5);have s7:w6.Since g.heap.size w7:=(sM t7 z5).grown g7 (by simp;omega) (fun ar u=>(o5.lt ar u).1);have k7:Lib.OthersKept 5 none w6 w7:=(xP t7).grown g7 (Lib.ownsRow_kind (o5.alloc _));have S7:=S5.trans (sM s7 S2.size);have P7:=P5.on s7;have B7:=B5.others k7;have z7:=aU z5 s7.size;have o8:w7.ownsRow g.heap.size 5 1 v7 (n5+1) (Lib.byteCells (U++Lib.decDigits (lv X c)++[47])):=by
       rw[ul _ [47]];exact o7
      clear o5 o7 g7 aq t7 s7 k7 S5 P5 B5 az;go_wp2_with fail;refine (rx om G.nY B7 G.lY G.pY (fL G.d6) o8 z7 bo bq om P7).mono ?_;rintro e w9 ⟨v9,rfl,a5,o9,av⟩;have S9:=S7.trans (sM av.since S2.size);obtain⟨g9,c9,rfl,bh⟩:=og o9 a5.out (by rw[HN.out];simp;omega);clear o9 av B7 P7;go_wp2;go_ret;refine⟨?_,S9⟩;have hD:=HD.out;simp[jG,hD,af.out]
end Go.Proofs.YtinihjgnnlemmaaGreatDoor
