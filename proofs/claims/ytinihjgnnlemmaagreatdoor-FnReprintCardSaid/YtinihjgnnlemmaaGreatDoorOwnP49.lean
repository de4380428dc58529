import Derived.Test.YtinihjgnnlemmaaGreatDoorOwnP56
import Derived.Test.YtinihjgnnlemmaaGreatDoorOwnP46
set_option maxHeartbeats 6400000
set_option maxRecDepth 100000
set_option linter.unusedVariables false
namespace Go.Proofs.YtinihjgnnlemmaaGreatDoor
open Go.RowKit
variable{w v W V:World}{n m c d k i j l o b p q t r s g h e:Nat}{a A B:Option Addr}{X Y Z:Nat->Nat}{f F:Bool}{z y:Int}
theorem ah(l:List UInt8)(n:Nat):bt ⟨l.toArray⟩ n=(l[n]?.getD 0).toNat:=by simp[bt]
theorem ag(l:List UInt8):(⟨l.toArray⟩:ByteArray).size=l.length:=by simp[ByteArray.size]
theorem yQ(h:¬n<10):Lib.decDigits n=Lib.decDigits (n/10)++[UInt8.ofNat (48+n % 10)]:=by
 conv=>lhs;rw[Lib.decDigits]
 rw[dif_neg h]
theorem cm(h:n<10):(UInt8.ofNat (48+n)).toNat=48+n:=by
 rw[UInt8.toNat_ofNat'];omega
theorem sS(n:Nat):∀x∈Lib.decDigits n,48<=x.toNat/\x.toNat<=57:=by
 induction n using Nat.strongRecOn with
 | ind n ih=>
   intro x a;by_cases h:n<10
   . rw[Lib.decDigits_one h,List.mem_singleton] at a;subst a;rw[cm h];omega
   . rw[yQ h,iX,List.mem_singleton] at a;rcases a with a | rfl
     . exact ih (n/10) om x a
     . rw[cm om];omega
theorem cU(n:Nat):Lib.decDigits n≠[]:=by
 by_cases h:n<10
 . rw[Lib.decDigits_one h];simp
 . rw[yQ h];simp
theorem apj(l r:List UInt8)(a:n<=l.length):dv ⟨(l++r).toArray⟩ n=dv ⟨l.toArray⟩ n:=by
 induction n with
 | zero=>rfl
 | succ n ih=>rw[dv,dv,ih om,ah,ah,bJ om]
theorem apl(n:Nat):dv ⟨(Lib.decDigits n).toArray⟩ (Lib.decDigits n).length=n:=by
 induction n using Nat.strongRecOn with
 | ind n ih=>
   by_cases h:n<10
   . rw[Lib.decDigits_one h];show 0*10+(bt _ 0-48)=n;rw[ah];simp only[List.getElem?_cons_zero,gI];rw[cm h];omega
   . rw[yQ h,aT,tJ,dv,apj _ _ zR,ih (n/10) om,ah,bK zR,uD];simp only[List.getElem?_cons_zero,gI];rw[cm om];omega
theorem el(n:Nat):dv ⟨(Lib.decDigits n).toArray⟩ (⟨(Lib.decDigits n).toArray⟩:ByteArray).size=n:=by rw[ag];exact apl n
theorem agb{l:List UInt8}{c:UInt8}(h:c∉l):firstIdx ⟨l.toArray⟩ c=-1:=by
 rcases qK ⟨l.toArray⟩ c with ⟨e,-⟩ | ⟨i,a,-,hb,-⟩
 . exact e
 . rw[ag] at a;rw[ah,aK a,gI,UInt8.toNat_inj] at hb;exact absurd (hb▸jB a) h
theorem ai9{l r:List UInt8}{c:UInt8}(h:c∉l):firstIdx ⟨(l++c::r).toArray⟩ c=(l.length:Int):=by
 have d:bt ⟨(l++c::r).toArray⟩ l.length=c.toNat:=by rw[ah,bK zR,uD];rfl
 have f:l.length<(⟨(l++c::r).toArray⟩:ByteArray).size:=by rw[ag];simp
 rcases qK ⟨(l++c::r).toArray⟩ c with ⟨-,b⟩ | ⟨i,g,e,hb,b⟩
 . exact absurd d (b _ f)
 . rw[e];rcases kD i l.length with a | a | a
   . rw[ah,bJ a,aK a,gI,UInt8.toNat_inj] at hb;exact absurd (hb▸jB a) h
   . rw[a]
   . exact absurd d (b _ a)
theorem c8(n:Nat):(47:UInt8)∉Lib.decDigits n:=fun h=>by
 have:=(sS n _ h).1
 revert this;decide
def ak(N D:Nat):List UInt8:=Lib.decDigits N++(if D=1 then [] else 47::Lib.decDigits D)
theorem aob(n m:Nat):jb ⟨(ak n m).toArray⟩=⟨(Lib.decDigits n).toArray⟩:=by
 unfold jb ak;by_cases h:m=1
 . rw[aY h,iJ,aY (agb (c8 n))]
 . rw[aM h,ai9 (c8 n),aM om,iL];apply mq;rw[Lib.extract_data];simp
theorem ao1(n m:Nat):iN ⟨(ak n m).toArray⟩=⟨(Lib.decDigits m).toArray⟩:=by
 unfold iN ak;by_cases h:m=1
 . rw[aY h,iJ,aY (agb (c8 n)),h];rw[Lib.decDigits_one om];rfl
 . rw[aM h,ai9 (c8 n),aM om,iL];apply mq;rw[Lib.extract_to_end];simp
theorem aie(f:Bool)(n m:Nat):vO ⟨(jG f n m).toArray⟩=f/\runs ⟨(jG f n m).toArray⟩=⟨(ak n m).toArray⟩:=by
 have e:jG f n m=(if f then [45] else [])++ak n m:=rfl;have a:ak n m≠[]:=by unfold ak;simp[cU]
 have c:vO ⟨(jG f n m).toArray⟩=f:=by
  unfold vO;cases f
  . obtain⟨x,t,d⟩:=List.exists_cons_of_ne_nil (cU n);have g:=sS n x (by rw[d];simp);have b:bt ⟨(jG false n m).toArray⟩ 0=x.toNat:=(by rw[ah,e,ak,d];rfl);rw[b];have:¬x.toNat=45:=om;simp[this]
  . have b:bt ⟨(jG true n m).toArray⟩ 0=45:=(by rw[ah,e];rfl);rw[b,ag,e];simp
 refine⟨c, ?_⟩;unfold runs;rw[c,e];cases f
 . rfl
 . show (ByteArray.mk _).extract 1 _=_;apply mq;rw[Lib.extract_to_end];rfl
theorem ajt(d:Nat.gcd n m=1)(e:f=true->n≠0)(h:js ⟨(jG f n m).toArray⟩):eP ⟨(jG f n m).toArray⟩=(f,n,m,0):=by
 obtain⟨b,c⟩:=aie f n m;unfold js at h;unfold eP at h⊢;simp only[b,c,aob,ao1,el] at h⊢;split at h
 . cases h
 . rename_i h1
   split at h
   . cases h
   . rename_i h2
     split at h
     . cases h
     . rename_i h3
       simp only[aM h1,aM h2,aM h3,d,pI];cases f
       . simp
       . simp[e rfl]
def rb(l:List UInt8):ByteArray:=⟨l.toArray⟩
def Plain(ws:List (List UInt8)):Prop:=∀l∈ws,l≠[]/\(32:UInt8)∉l/\(10:UInt8)∉l
theorem akj{c:List (List UInt8)}(h:Plain c)(b:c≠[]):lV 32 (Lib.join c [32])=c:=by
 induction c with
 | nil=>exact absurd rfl b
 | cons x r ih=>
   have a:=(h x qz).2.1;rw[Lib.join_cons];cases r with
   | nil=>
     rw[show Lib.joinTail [32] ([]:List (List UInt8))=[] from rfl,iJ];exact sT 32 x a
   | cons y r=>
     have e:Lib.joinTail [32] (y::r)=32::Lib.join (y::r) [32]:=(by rw[Lib.join_cons];simp[Lib.joinTail]);rw[e,sY 32 _ x a,ih (fun l hl=>h l (iA _ hl)) qz]
theorem ag6{c:List (List UInt8)}(h:Plain c)(a:c≠[]):ja (rb (Lib.join c [32]))=c.map rb:=by
 unfold ja jP rb;rw[akj h a];rw[List.filter_eq_self];intro p b;obtain⟨l,hl,rfl⟩:=dT.1 b;have:=(h l hl).1;rw[ag];have:0<l.length:=List.length_pos_iff.2 this;simpa using this
theorem aj2{c:List (List UInt8)}(h:Plain c):(10:UInt8)∉Lib.join c [32]:=by
 cases c with
 | nil=>simp[Lib.join]
 | cons x r=>
   rw[Lib.join_cons,iX,not_or];refine⟨(h x qz).2.2,fun a=> ?_⟩;unfold Lib.joinTail at a;obtain⟨l,hl,a⟩:=List.mem_flatten.1 a;obtain⟨y,b,rfl⟩:=dT.1 hl;rw[iX] at a;rcases a with a | a
   . revert a;decide
   . exact (h y (iA _ b)).2.2 a
def lS(LL:List (List (List UInt8))):List UInt8:=(LL.map fun ws=>Lib.join ws [32]++[10]).flatten
theorem vJ(a b:List (List (List UInt8))):lS (a++b)=lS a++lS b:=by simp[lS]
theorem al2{a:List (List (List UInt8))}(h:∀b∈a,Plain b/\b≠[])(n:Nat):(ip n (jP 10 (rb (lS a)))).map (·.2)=a.map (·.map rb):=by
 induction a generalizing n with
 | nil=>simp[lS,rb,jP,lV,ip,ja];rfl
 | cons b a ih=>
   obtain⟨c,d⟩:=h b qz;have e:lS (b::a)=Lib.join b [32]++10::lS a:=(by simp[lS]);have g:jP 10 (rb (lS (b::a)))=rb (Lib.join b [32])::jP 10 (rb (lS a)):=(by unfold jP rb;rw[e];simp only;rw[sY 10 _ _ (aj2 c)];rfl);have f:=ag6 c d;have i:¬ja (rb (Lib.join b [32]))=[]:=(by rw[f];simpa using d);rw[g,ip,aM i,dG,ih (fun x j=>h x (iA _ j)),f];rfl
structure RnN(s:ByteArray)(n:Nat)(A:Nat->ic)(code:Int):Prop where
 c0:0<=code
 c1:code<=3
 bad:code≠0->n=0
 good:code=0->pH n A/\vK A n<=200002/\s.size<=100000/\∃ms,lO (ip 0 (jP 10 s)) ms/\n=ms.length/\A=mapA ms
 spec:∀w:World,Calls Tryz.prog 4 #[.string s] w fun e w'=>∃a g cap,e=.returned (.tuple #[.agg #[.slice a n cap],.int .i64 code])/\n<=cap/\sc w' 0 a g 0 n A/\w.Since w.heap.size w'
 impl:∀w:World,Calls Tryz.prog 6 #[.string s] w fun e w'=>∃a g cap,e=.returned (.tuple #[.agg #[.slice a n cap],.int .i64 code])/\n<=cap/\sc w' 0 a g 0 n A/\w.Since w.heap.size w'
theorem RnN.no{s:ByteArray}(g:0<z)(d:z<=3)
 (f:∀w:World,Cl 4 #[.string s] w fun e b=>e=.returned (.tuple #[.agg #[.n],.i z])/\w.S b)
 (a:∀w:World,Cl 6 #[.string s] w fun e b=>e=.returned (.tuple #[.agg #[.n],.i z])/\w.S b):RnN s 0 (fun _=>ic.nul) z:=
 ⟨om,d,fun _=>rfl,fun e=>absurd e om,fun w=>(f w).mono (fun e b ⟨c,s⟩=>⟨none,0,0,c,aC _,fun i a=>absurd a om,s⟩),
   fun w=>(a w).mono (fun e b ⟨c,s⟩=>⟨none,0,0,c,aC _,fun i a=>absurd a om,s⟩)⟩
theorem RnN.net{s:ByteArray}{ms:List iQ}(p:s.size<=100000)(b:lO (ip 0 (jP 10 s)) ms)(l:pH ms.length (mapA ms)):RnN s ms.length (mapA ms) 0:=by
 obtain⟨u,x,f⟩:=lO.lims p b;have y:=b.limz;refine⟨om,om,fun h=>absurd rfl h,fun _=>⟨l,om,p,ms,b,rfl,rfl⟩,fun w=>(nu om).mono ?_,fun w=>(nH om).mono ?_⟩
 . rintro e q ⟨S,⟨h,-⟩ | ⟨-,h,-⟩ | ⟨-,o,h,d,-⟩ | ⟨-,o,v,r,t,h,-,n,O⟩⟩
   . omega
   . exact absurd b (h ms)
   . rw[<-b.only h] at d;exact absurd l d
   . obtain rfl:=b.only h;obtain⟨a,g,k,rfl,m,j⟩:=O.affs (fun i c=>(f i c).1) (fun i c=>by have:=(f i c).2;omega);exact⟨a,g,k,n,m,j,S⟩
 . rintro e q ⟨S,⟨h,-⟩ | ⟨-,h,-⟩ | ⟨-,o,h,d,-⟩ | ⟨-,o,v,r,t,h,-,n,O,c,ap⟩⟩
   . omega
   . exact absurd b (h ms)
   . rw[<-b.only h] at d;exact absurd l d
   . obtain rfl:=b.only h;obtain⟨a,g,k,rfl,m,j⟩:=O.affs (fun i c=>(f i c).1) (fun i c=>by have:=(f i c).2;omega);exact⟨a,g,k,n,m,j,S⟩
theorem afq(s:ByteArray)(c:s.size<=9223372036854775807):∃n A k,RnN s n A k:=by
 by_cases hl:100000<s.size
 . refine⟨0,_,1,RnN.no om om (fun w=>(nu c).mono ?_) (fun w=>(nH c).mono ?_)⟩
   all_goals
    rintro e j ⟨S,⟨-,d⟩ | ⟨h,-⟩ | ⟨h,-⟩ | ⟨h,-⟩⟩
    . exact⟨d,S⟩
    all_goals omega
 have l:s.size<=100000:=om;by_cases b:∃a,lO (ip 0 (jP 10 s)) a;rotate_left
 . have i:∀a,¬lO (ip 0 (jP 10 s)) a:=fun a h=>b ⟨a,h⟩;refine⟨0,_,2,RnN.no om om (fun w=>(nu c).mono ?_) (fun w=>(nH c).mono ?_)⟩
   all_goals
    rintro e j ⟨S,⟨h,-⟩ | ⟨-,-,d⟩ | ⟨-,a,h,-⟩ | ⟨-,a,v,o,p,h,-⟩⟩
    . omega
    . exact⟨d,S⟩
    . exact absurd h (i a)
    . exact absurd h (i a)
 obtain⟨a,b⟩:=b;by_cases g:pH a.length (mapA a)
 . exact⟨_,_,_,RnN.net l b g⟩
 . refine⟨0,_,3,RnN.no om om (fun w=>(nu c).mono ?_) (fun w=>(nH c).mono ?_)⟩
   all_goals
    rintro e j ⟨S,⟨h,-⟩ | ⟨-,h,-⟩ | ⟨-,m,-,-,d⟩ | ⟨-,m,v,o,p,h,f,-⟩⟩
    . omega
    . exact absurd b (h a)
    . exact⟨d,S⟩
    . rw[<-b.only h] at f;exact absurd f g
theorem ec:∀ {u:Nat},0<n->u<10^n->(Lib.decDigits u).length<=n:=by
 induction n with
 | zero=>intro u h;omega
 | succ n ih=>
   intro u _ h;by_cases a:u<10
   . rw[Lib.decDigits_one a];simp
   . rw[yQ a,aT,tJ];have b:0<n:=by
      rcases cQ n with e | e
      . subst e;simp at h;omega
      . exact e
     have:=ih (u:=u/10) b (by rw[iH] at h;omega);omega
theorem ea(n:Nat):lE (rb (Lib.decDigits n))=true:=by
 have b:(rb (Lib.decDigits n)).size=(Lib.decDigits n).length:=ag _;have h:c9 (rb (Lib.decDigits n)):=fun k a=>by rw[b] at a;rw[show bt (rb (Lib.decDigits n)) k=_ from ah _ k,aK a];exact sS n _ (jB a)
 have c:0<(rb (Lib.decDigits n)).size:=by rw[b];exact List.length_pos_iff.2 (cU n)
 simp[lE,h,c]
theorem ajy{x:ByteArray}(h:js x):((eP x).1=true->(eP x).2.1≠0)/\Nat.gcd (eP x).2.1 (eP x).2.2.1=1/\(eP x).2.2.1≠0/\(Lib.decDigits (eP x).2.1).length<=400/\(Lib.decDigits (eP x).2.2.1).length<=400:=by
 unfold js at h;unfold eP at h⊢;simp only at h⊢;split at h
 . cases h
 . rename_i h1
   split at h
   . cases h
   . rename_i h2
     split at h
     . cases h
     . rename_i h3
       simp only[aM h1,aM h2,aM h3];generalize jb (runs x)=t at*;generalize iN (runs x)=b at*;have a:lE t=true/\lE b=true:=(by simpa using h1);have d:=ug (k:=t.size) (lm a.1);have e:=ug (k:=b.size) (lm a.2);have f:0<t.size:=(by have:=a.1;unfold lE at this;simp only[fT,mG] at this;exact this.2);have g:0<b.size:=(by have:=a.2;unfold lE at this;simp only[fT,mG] at this;exact this.2);generalize dv t t.size=N at*;generalize dv b b.size=D at*;have c:0<Nat.gcd N D:=lQ _ (nJ h3);refine⟨fun h=> ?_,Nat.coprime_div_gcd_div_gcd c,qY (tS (Nat.le_of_dvd (nJ h3) (jD N D)) c), ?_, ?_⟩
       . simp only[fT,nG,ne_eq] at h;exact qY (tS (Nat.le_of_dvd (nJ h.2) (jQ N D)) c)
       . have:=ec f (dD (iV N (Nat.gcd N D)) d);omega
       . have:=ec g (dD (iV D (Nat.gcd N D)) e);omega
theorem ajz{x:ByteArray}(h:js x):js (rb (q9 x).dH)/\q9 (rb (q9 x).dH)=q9 x:=by
 obtain⟨i,g,f,k,l⟩:=ajy h;have e:(q9 x).dH=jG (eP x).1 (eP x).2.1 (eP x).2.2.1:=by unfold fZ.dH q9 yk;simp only[(j8 (eP x).2.1).2.2,(j8 (eP x).2.2.1).2.2]
 have a:js (rb (jG (eP x).1 (eP x).2.1 (eP x).2.2.1)):=by obtain⟨j,d⟩:=aie (eP x).1 (eP x).2.1 (eP x).2.2.1;generalize (eP x).1=m at*;generalize (eP x).2.1=N at*;generalize (eP x).2.2.1=D at*;have b:lE ⟨(Lib.decDigits N).toArray⟩=true:=ea N;have c:lE ⟨(Lib.decDigits D).toArray⟩=true:=ea D;unfold js rb eP;simp only[d,aob,ao1,b,c,Bool.and_self,Bool.not_true];rw[aM qz,aM (by rw[ag,ag];omega),aM (by rw[el];exact f)]
 rw[e];refine⟨a, ?_⟩;have p:=ajt g i a;unfold q9;rw[show eP (rb (jG (eP x).1 (eP x).2.1 (eP x).2.2.1))=_ from p]
def b3(d:ic):List (List (List UInt8)):=[[109,97,112],iz d.rows,iz d.cols]::(List.range d.rows.toNat).map (re d)
def yr(A:Nat->ic):Nat->List (List (List UInt8))
 | 0=>[]
 | k+1=>yr A k++b3 (A k)
def b2(n:Nat)(A:Nat->ic):List (List (List UInt8)):=[[110,101,116],iz (n:Int)]::yr A n
theorem agP(d:ic)(n:Nat):lS ((List.range n).map (re d))=l8 d n:=by
 induction n with
 | zero=>rfl
 | succ n ih=>
   rw[gY,eJ,vJ,ih,l8];simp[lS,bH]
theorem ajB(d:ic):lS (b3 d)=aE d++l8 d d.rows.toNat:=by
 rw[b3,show ∀a b,lS (a::b)=lS [a]++lS b from fun a b=>vJ [a] b,agP];simp[lS,Lib.join_cons,Lib.joinTail,aE]
theorem ahf(A:Nat->ic)(n:Nat):lS (yr A n)=oq A n:=by
 induction n with
 | zero=>rfl
 | succ n ih=>rw[yr,vJ,ih,ajB,oq]
theorem aj6(n:Nat)(A:Nat->ic):lS (b2 n A)=wG n A:=by
 rw[b2,show ∀a b,lS (a::b)=lS [a]++lS b from fun a b=>vJ [a] b,ahf,wG];simp[lS,Lib.join_cons,Lib.joinTail,uZ]
theorem b5(n:Nat):Lib.decDigits n≠[]/\(32:UInt8)∉Lib.decDigits n/\(10:UInt8)∉Lib.decDigits n:=
 ⟨cU n,fun h=>by have:=(sS n _ h).1;revert this;decide,fun h=>by have:=(sS n _ h).1;revert this;decide⟩
theorem apC(R:fZ):R.dH≠[]/\(32:UInt8)∉R.dH/\(10:UInt8)∉R.dH:=by
 obtain⟨a,b,c⟩:=b5 (lv R.X R.n);obtain⟨d,e,f⟩:=b5 (lv R.Y R.m);unfold fZ.dH jG;refine⟨by simp[a], ?_, ?_⟩
 all_goals
  simp only[iX,not_or];refine⟨by split<;>decide,by assumption, ?_⟩
  split
  . simp
  . simp only[fW,not_or];exact⟨by decide,by assumption⟩
theorem ahd(A:Nat->ic)(n:Nat):∀a∈yr A n,Plain a/\a≠[]:=by
 induction n with
 | zero=>intro a h;cases h
 | succ n ih=>
   intro a h;rw[yr,iX] at h;rcases h with h | h
   . exact ih a h
   unfold b3 at h;rw[fW] at h;rcases h with rfl | h
   . refine⟨fun l hl=> ?_,qz⟩;simp only[fW,List.mem_nil_iff,qO] at hl;rcases hl with rfl | rfl | rfl
     . decide
     . exact b5 _
     . exact b5 _
   . obtain⟨i,-,rfl⟩:=dT.1 h;refine⟨fun l hl=> ?_,by simp[re]⟩;unfold re at hl;rw[iX,List.mem_singleton] at hl;rcases hl with hl | rfl
     . unfold ty at hl;obtain⟨i,-,rfl⟩:=dT.1 hl;exact apC _
     . exact apC _
theorem aj3(n:Nat)(A:Nat->ic):∀a∈b2 n A,Plain a/\a≠[]:=by
 intro a h;unfold b2 at h;rw[fW] at h;rcases h with rfl | h
 . refine⟨fun l hl=> ?_,qz⟩;simp only[fW,List.mem_nil_iff,qO] at hl;rcases hl with rfl | rfl
   . decide
   . exact b5 _
 . exact ahd A n a h
theorem ek(a:0<=z)(h:z<=20000):isInt (rb (iz z))/\dv (rb (iz z)) (rb (iz z)).size=z.toNat:=by
 unfold iz;refine⟨⟨ea _, ?_⟩,el _⟩;rw[show (rb (Lib.decDigits z.toNat)).size=_ from ag _];exact ec om (aS (show z.toNat<100000 by omega) qd)
structure dc(d:ic):Prop where
 r:0<=d.rows/\d.rows<=20000
 c:0<=d.cols/\d.cols<=20000
 nw:d.nw=d.rows.toNat*d.cols.toNat
 nb:d.nb=d.rows.toNat
 W:∀i,i<d.nw->js (rb (d.W i).dH)/\q9 (rb (d.W i).dH)=d.W i
 B:∀i,i<d.nb->js (rb (d.B i).dH)/\q9 (rb (d.B i).dH)=d.B i
 W':∀i,d.nw<=i->d.W i=q9 ⟨#[]⟩
 B':∀i,d.nb<=i->d.B i=q9 ⟨#[]⟩
theorem ajm{d:ic}(h:dc d)(f:n<d.rows.toNat):mQ d.cols.toNat ((re d n).map rb):=by
 have g:∀c,c<d.cols.toNat->n*d.cols.toNat+c<d.nw:=fun c b=>by rw[h.nw];have:=aP d.cols.toNat (show n+1<=d.rows.toNat from f);rw[Nat.succ_mul] at this;omega
 have hl:((re d n).map rb).length=d.cols.toNat+1:=by simp[re,uO]
 refine⟨hl,om,fun i k=> ?_⟩;have j:wd ((re d n).map rb) i∈(re d n).map rb:=by unfold wd;rw[fP,aK om];exact jB _
 obtain⟨l,a,e⟩:=dT.1 j;rw[<-e];unfold re at a;rw[iX,List.mem_singleton] at a;rcases a with a | rfl
 . unfold ty at a;obtain⟨c,b,rfl⟩:=dT.1 a;exact (h.W _ (g c (by simpa using b))).1
 . exact (h.B n (by rw[h.nb];exact f)).1
theorem aoI(d:ic)(n:Nat):(List.range n).flatMap (fun r=>(((re d r).map rb).take d.cols.toNat))=(List.range (n*d.cols.toNat)).map fun i=>rb (d.W i).dH:=by
 induction n with
 | zero=>simp
 | succ n ih=>
   rw[List.range_succ,List.flatMap_append,ih,Nat.succ_mul,List.range_add,List.map_append];congr 1;simp only[List.flatMap_cons,List.flatMap_nil,List.append_nil,re,List.map_append];rw[List.take_append_of_le_length (by simp[uO]),List.take_of_length_le (by simp[uO])];unfold ty a2;simp[List.map_map,Function.comp_def]
theorem ak0{f:Nat->ByteArray}:wd ((List.range n).map f) m=if m<n then f m else ⟨#[]⟩:=by
 unfold wd;rw[fP,cY];split
 . rename_i h;rw[fK h];rfl
 . rename_i h;rw[dJ (by simpa using h)];rfl
theorem apY{d:ic}(h:dc d){n:pR}(e:n.map (·.2)=(List.range d.rows.toNat).map fun r=>(re d r).map rb):(iQ.mk d.rows.toNat d.cols.toNat n).A=d:=by
 have b:WL d.cols.toNat n=(List.range d.nw).map fun i=>rb (d.W i).dH:=by
  rw[h.nw,<-aoI];unfold WL;have:∀l:pR,l.flatMap (fun r=>r.2.take d.cols.toNat)=(l.map (·.2)).flatMap fun r=>r.take d.cols.toNat:=fun l=>by rw[rG]
  rw[this,e,rG]
 have a:BL d.cols.toNat n=(List.range d.nb).map fun i=>rb (d.B i).dH:=by
  rw[h.nb];unfold BL;have:∀l:pR,l.map (fun r=>wd r.2 d.cols.toNat)=(l.map (·.2)).map fun r=>wd r d.cols.toNat:=fun l=>by rw[sU];rfl
  rw[this,e,sU];refine fG fun r _=> ?_;show wd ((re d r).map rb) d.cols.toNat=_;unfold wd re;rw[fP,eJ,bK (by simp[uO])];simp[uO]
 have j:qu (WL d.cols.toNat n)=d.W:=by
  funext i;unfold qu;rw[b,ak0];split
  . rename_i hi;exact (h.W i hi).2
  . rename_i hi;exact (h.W' i om).symm
 have g:qu (BL d.cols.toNat n)=d.B:=by
  funext i;unfold qu;rw[a,ak0];split
  . rename_i hi;exact (h.B i hi).2
  . rename_i hi;exact (h.B' i om).symm
 have m:(WL d.cols.toNat n).length=d.nw:=by rw[b];simp
 have k:(BL d.cols.toNat n).length=d.nb:=by rw[a];simp
 have c:=h.r;have f:=h.c;unfold iQ.A;simp only;rw[j,g,m,k,Int.toNat_of_nonneg c.1,Int.toNat_of_nonneg f.1]
theorem ahe{A:Nat->ic}(n:Nat)(h:∀k,k<n->dc (A k)):∀(l r:pR),l.map (·.2)=(yr A n).map (·.map rb)->∃a:List iQ,kn a (l++r) r/\a.length=n/\∀i,i<n->(mD a i).A=A i:=by
 induction n with
 | zero=>
   intro l r e;obtain rfl:l=[]:=(by simpa [yr] using e);exact⟨[],rfl,rfl,fun i m=>absurd m om⟩
 | succ n ih=>
   intro l r e;rw[yr,eJ] at e;obtain⟨F,G,rfl,t,c⟩:=List.map_eq_append_iff.1 e;obtain⟨a,v,g,w⟩:=ih (fun k I=>h k om) F (G++r) t;have M:=h n om;unfold b3 at c;rw[dG,sU] at c;obtain⟨⟨H,x⟩,b,rfl,f,d⟩:=List.map_eq_cons_iff.1 c;simp only at f;subst f;obtain⟨D,p⟩:=ek M.r.1 M.r.2;obtain⟨E,s⟩:=ek M.c.1 M.c.2;have B:b.length=(A n).rows.toNat:=(by have:=congrArg List.length d;simpa using this);refine⟨a++[⟨(A n).rows.toNat,(A n).cols.toNat,b⟩], ?_,by simp[g],fun i m=> ?_⟩
   . rw[dZ];refine v.snoc (m:=⟨(A n).rows.toNat,(A n).cols.toNat,b⟩) ⟨⟨H,_,_,rfl,D,E,p,s⟩,B,fun q C=> ?_⟩;have o:q.2∈b.map (·.2):=dT.2 ⟨q,C,rfl⟩;rw[d] at o;obtain⟨j,z,u⟩:=dT.1 o;rw[<-u];exact ajm M (by simpa using z)
   . by_cases y:i<n
     . rw[eD om];exact w i y
     . obtain rfl:i=a.length:=om;rw[vc,g];exact apY M d
theorem ain:∀ {l:List ByteArray} {i:Nat},l.length<=i->qu l i=q9 ⟨#[]⟩:=fun {l i} h=>by
 unfold qu wd;rw[fP,dJ h];rfl
theorem ap2{g:pR}(h:∀r∈g,mQ n r.2):∀x∈WL n g,js x:=fun x a=>by
 obtain⟨r,d,a⟩:=iK.1 a;obtain⟨e,f,b⟩:=h r d;obtain⟨i,c,rfl⟩:=List.mem_iff_getElem.1 (List.mem_of_mem_take a);have:=b i om;unfold wd at this;rw[fP,aK c] at this;exact this
theorem ap5{c:pR}(h:∀r∈c,mQ n r.2):∀x∈BL n c,js x:=fun x b=>by
 obtain⟨r,a,rfl⟩:=dT.1 b;exact (h r a).2.2 n om
theorem abW{l:List ByteArray}(h:∀x∈l,js x)(a:n<l.length):js (rb (qu l n).dH)/\q9 (rb (qu l n).dH)=qu l n:=by
 refine ajz (h _ ?_);unfold wd;rw[fP,aK a];exact jB a
theorem aj4{s:ByteArray}{F:List iQ}(u:lO (ip 0 (jP 10 s)) F)(c:pH F.length (mapA F))(hl:(wG F.length (mapA F)).length<=100000):RnN (rb (wG F.length (mapA F))) F.length (mapA F) 0:=by
 have G:∀k,k<F.length->dc (mapA F k):=fun k j=>by have M:=c.map j;have n:=u.rows j;have A:=M.r;have B:=M.c;have C:=M.r1;have D:=M.c1;exact⟨om,om,M.nw,M.nb,fun i a=>abW (ap2 n) a,fun i a=>abW (ap5 n) a,fun i a=>ain a,fun i a=>ain a⟩
 have e:=al2 (aj3 F.length (mapA F)) 0;rw[aj6] at e;unfold b2 at e;rw[dG] at e;obtain⟨⟨z,x⟩,l,t,g,r⟩:=List.map_eq_cons_iff.1 e;simp only at g;subst g;obtain⟨b,m,d,y⟩:=ahe F.length G l [] r;rw[iJ] at m;have E:F.length<=20000:=by have:=c.n1;omega
 obtain⟨w,p⟩:=ek (z:=(F.length:Int)) om om;have o:lO (ip 0 (jP 10 (rb (wG F.length (mapA F))))) b:=⟨z,_,l,t,w,by rw[d];exact p.symm,m⟩;have f:mapA b=mapA F:=by
  funext i;by_cases a:i<F.length
  . exact y i a
  . have h:∀q:List iQ,q.length<=i->mD q i=iQ.nul:=fun q v=>by
     unfold mD;rw[fP,dJ v];rfl
    unfold mapA;rw[h F om,h b om]
 have:=RnN.net (s:=rb (wG F.length (mapA F))) (ms:=b) (by rw[show (rb (wG F.length (mapA F))).size=_ from ag _];exact hl) o (by rw[d,f];exact c);rw[d,f] at this;exact this
theorem ah2{C:Option Addr}(S:o<=1048576)(R:p<=1048576)(E:eO w a n m o X)(G:eO w A c d p Y)(F:eO w B k i o X)(H:eO w C j l p Y):
 Cl 91 #[.agg #[.bool f,.slice a o b,.slice A p q],.agg #[.bool f,.slice B o t,.slice C p r]] w fun e Q=>e=.returned (.bool true)/\w.S Q:=by
 have s:w.S ((w.alloc (.o #[.bool f,.l a o b,.l A p q] 70)).alloc (.o #[.bool f,.l B o t,.l C p r] 70)):=(fA _ _).alloc qz _;have M:eS ((w.alloc (.o #[.bool f,.l a o b,.l A p q] 70)).alloc (.o #[.bool f,.l B o t,.l C p r] 70)) w.heap.size (.bool f) (.l a o b) (.l A p q):=(eS.new w _ _ _ _).aA (fA _ _);have x:eS ((w.alloc (.o #[.bool f,.l a o b,.l A p q] 70)).alloc (.o #[.bool f,.l B o t,.l C p r] 70)) (w.heap.size+1) (.bool f) (.l B o t) (.l C p r):=by have:=eS.new (w.alloc (.o #[.bool f,.l a o b,.l A p q] 70)) (.bool f) (.l B o t) (.l C p r) 70;simpa using this
 have U:=And.intro M.cells x.cells;go_enter Tryz.func91,Tryz.ntmps91;go_wp2;generalize ((w.alloc _).alloc _)=y at*;go_loopw [5] (fun D wr=>∃g:Nat,g<=o/\D=.i g/\Same y wr) (fun D _=>o-(intOf D).toNat)
 case atStart=>exact⟨0,aJ _,rfl,Same.refl _⟩
 case round=>
  obtain⟨g,I,rfl,h⟩:=hrel;have O:wr.cell? (jj w.heap.size 1)=some (.l a o b):=by rw[h.cell];exact M.c1
  have P:wr.cell? (jj (w.heap.size+1) 1)=some (.l B o t):=by rw[h.cell];exact x.c1
  by_cases L:g<o
  . obtain⟨rfl,u⟩:=E g L;obtain⟨rfl,v⟩:=F g L;have z:=(s.cell (a:=jj _ _) (aG _ _ u)).trans u;have N:=(s.cell (a:=jj _ _) (aG _ _ v)).trans v;rw[<-h.cell] at z N;have K:(g:Int)<o:=om;go_wp2;go_quiet (fail);go_wp2;go_roundw
    case rel=>exact⟨g+1,om,by go_num,h.drewN _⟩
    case measure=>exact yI
  . have V:=O;have T:=And.intro M.cells x.cells;have W:wr.cell? (jj w.heap.size 2)=some (.l A p q):=(by rw[h.cell];exact M.c2);go_wp2;go_loopw [6] (fun D wr=>∃g:Nat,g<=p/\D=.i g/\Same y wr) (fun D _=>p-(intOf D).toNat)
    case atStart=>exact⟨0,aJ _,rfl,h⟩
    case round=>
     obtain⟨g,I,rfl,h⟩:=hrel;have O:wr.cell? (jj w.heap.size 2)=some (.l A p q):=(by rw[h.cell];exact M.c2);have P:wr.cell? (jj (w.heap.size+1) 2)=some (.l C p r):=(by rw[h.cell];exact x.c2);by_cases L:g<p
     . obtain⟨rfl,u⟩:=G g L;obtain⟨rfl,v⟩:=H g L;have z:=(s.cell (a:=jj _ _) (aG _ _ u)).trans u;have N:=(s.cell (a:=jj _ _) (aG _ _ v)).trans v;rw[<-h.cell] at z N;have K:(g:Int)<p:=om;go_wp2;go_quiet (fail);go_wp2;go_roundw
       case rel=>exact⟨g+1,om,by go_num,h.drewN _⟩
       case measure=>exact yI
     . go_wp2;go_ret;exact⟨rfl,s.tr (h.since y.heap.size)⟩
theorem akG{f:Bool}{a A B g:Option Addr}{n m c d k i j l o b p q t r:Nat}{X Y:Nat->Nat}{w:World}(v:o<=1048576)(u:p<=1048576)(y:eO w a n m o X)(s:eO w A c d p Y)(z:eO w B k i o X)(I:eO w g j l p Y):
 Cl 58 #[.agg #[.bool f,.slice a o b,.slice A p q],.agg #[.bool f,.slice B o t,.slice g p r]] w fun e E=>e=.returned (.bool true)/\w.S E:=by
 have h:w.S ((w.alloc (.o #[.bool f,.l a o b,.l A p q] 70)).alloc (.o #[.bool f,.l B o t,.l g p r] 70)):=(fA _ _).alloc qz _;have x:eS ((w.alloc (.o #[.bool f,.l a o b,.l A p q] 70)).alloc (.o #[.bool f,.l B o t,.l g p r] 70)) w.heap.size (.bool f) (.l a o b) (.l A p q):=(eS.new w _ _ _ _).aA (fA _ _);have C:eS ((w.alloc (.o #[.bool f,.l a o b,.l A p q] 70)).alloc (.o #[.bool f,.l B o t,.l g p r] 70)) (w.heap.size+1) (.bool f) (.l B o t) (.l g p r):=by have:=eS.new (w.alloc (.o #[.bool f,.l a o b,.l A p q] 70)) (.bool f) (.l B o t) (.l g p r) 70;simpa using this
 have F:=And.intro x.cells C.cells;go_enter Tryz.func58,Tryz.ntmps58;go_wp2_with fail;generalize ((w.alloc _).alloc _)=G at*;refine mo (ah2 v u (y.aA h) (s.aA h) (z.aA h) (I.aA h)) fun H D=> ?_;go_wp2;go_ret;exact⟨rfl,h.tr D⟩
section
variable{w:World}{lo b o n:Nat}{r r':fZ}{a a1 a2:Option Addr}{k1 k2:Nat}{R R':Nat->fZ}{d d':fQ}{A A':Nat->fQ}
end
theorem abK{R:Nat->fZ}(hn:o<=1048576)(hs:nU R o<=1048576)(H:ph w n a m c o R)(y:ph w k A i j o R):
 Cl 22 #[.slice a o d,.slice A o l] w fun e f=>e=.returned (.bool true)/\w.S f:=by
 go_enter Tryz.func22,Tryz.ntmps22;go_wp2;go_loopw [5] (fun h wr=>∃b:Nat,b<=o/\h=.i b/\w.S wr) (fun h _=>o-(intOf h).toNat)
 case atStart=>exact⟨0,aJ _,rfl,aF _ _⟩
 case round=>
  obtain⟨b,hk,rfl,s⟩:=hrel;by_cases O:b<o
  . obtain⟨rfl,P,q,t,v,M⟩:=H b O;obtain⟨rfl,p,r,u,x,g⟩:=y b O;have sd:w.S wr.drew:=⟨s.os,s.tape,s.output,s.size,s.block⟩;have N:=M.aA s;have E:=g.aA s;obtain⟨W,Y,g2⟩:=N.g;obtain⟨X,af,aa⟩:=E.g;have ab:=qo (R:=R) O;have hz:(b:Int)<o:=om;obtain⟨F,Q,-,Z⟩:=(M.L.aA sd).LX;obtain⟨I,T,-,C⟩:=(M.L.aA sd).LY;obtain⟨G,S,-,B⟩:=(g.L.aA sd).LX;obtain⟨K,U,-,D⟩:=(g.L.aA sd).LY;have z:=@akG (R b).neg P q p r F Q I T G S K U (R b).n t (R b).m v u x (R b).X (R b).Y wr.drew om om Z C B D;go_wp2_with fail
    go_region_held3 (fun f=>f.cell? (jj m (c+b*3))=some (.bool (R b).neg)/\f.cell? (jj m (c+b*3+1))=some (.l P (R b).n t)/\f.cell? (jj m (c+b*3+2))=some (.l q (R b).m v)/\f.cell? (jj i (j+b*3))=some (.bool (R b).neg)/\f.cell? (jj i (j+b*3+1))=some (.l p (R b).n u)/\f.cell? (jj i (j+b*3+2))=some (.l r (R b).m x)) (go_keep)
     (first
       | (go_at_call 58;with_reducible refine mo z fun w1 V=> ?_;have L:=sd.tr V;obtain⟨i0,i1,i2⟩:=(M.aA L).g;obtain⟨ac,ad,ae⟩:=(g.aA L).g))
    all_goals go_wp2
    all_goals go_roundw
    case rel=>exact⟨b+1,om,by go_num,L⟩
    case measure=>exact yI
  . go_wp2;go_ret;exact⟨rfl,s⟩
theorem ady{g:Nat->ic}(hn:o<=1048576)(hs:vK g o<=1048576)(H:sc w n a m c o g)(U:sc w k A i j o g):
 Cl 7 #[.agg #[.slice a o d],.agg #[.slice A o l]] w fun af w'=>af=.returned (.bool true)/\w.S w':=by
 obtain⟨V,h⟩:∃V:World,V=(w.alloc (.o #[.l a o d] 25)).alloc (.o #[.l A o l] 25):=⟨_,rfl⟩;have X:w.S V:=by rw[h];exact (fA _ _).alloc qz _
 have G:ix V w.heap.size (.l a o d):=by rw[h];exact (ix.new w _ _).aA (fA _ _)
 have u:ix V (w.heap.size+1) (.l A o l):=by rw[h];have:=ix.new (w.alloc (.o #[.l a o d] 25)) (.l A o l) 25;simpa using this
 have aj:=H.aA X;have ak:=U.aA X;have T:=eI h;have z:=G.c0;have W:=u.c0;rw[h] at z W;clear h;go_enter Tryz.func7,Tryz.ntmps7;go_wp2;rw[<-T.out];clear z W;go_loopw [5] (fun Y wr=>∃b:Nat,b<=o/\Y=.i b/\V.S wr) (fun Y _=>o-(intOf Y).toNat)
 case atStart=>exact⟨0,aJ _,rfl,aF _ _⟩
 case round=>
  obtain⟨b,hk,rfl,s⟩:=hrel;have z2:=X.size;have z:=(G.aA s).c0;by_cases v:b<o
  . have W:=(u.aA s).c0;obtain⟨rfl,r,t,x,y,M⟩:=aj b v;obtain⟨rfl,E,F,I,K,Z⟩:=ak b v;have N:=M.aA s;have D:=Z.aA s;have g0:=N.c0;have g1:=N.c1;have g2:=N.c2;have g3:=N.c3;have ae:=xu (A:=g) v;have hz:(b:Int)<o:=om;have C:=fA wr (.o #[.i (g b).rows,.i (g b).cols,.l r (g b).nw x,.l t (g b).nb y] 52);have R:=ie.new wr (.i (g b).rows) (.i (g b).cols) (.l r (g b).nw x) (.l t (g b).nb y) 52;have zP:(wr.alloc (.o #[.i (g b).rows,.i (g b).cols,.l r (g b).nw x,.l t (g b).nb y] 52)).heap.size=wr.heap.size+1:=(by simp);have h4:=((u.aA s).aA C).c0;have f:=D.aA C;have e:=f.c0;have ab:=f.c1;have ac:=f.c2;have ad:=f.c3;clear W;go_wp2_with fail;generalize wr.alloc _=O at*;have L:=fA O (.o #[.i (g b).rows,.i (g b).cols,.l E (g b).nw I,.l F (g b).nb K] 52);have S:=ie.new O (.i (g b).rows) (.i (g b).cols) (.l E (g b).nw I) (.l F (g b).nb K) 52;have al:=C.tr L;have p:=s.tr al;obtain⟨ba,oa,-,am⟩:=(M.aA p).L.LW;obtain⟨bb,ob,-,an⟩:=(Z.aA p).L.LW;unfold ic.size at ae;refine mo (abK om om am an) fun w3 B=> ?_;have q:=p.tr B;obtain⟨bc,oc,-,P⟩:=(M.aA q).L.LB;obtain⟨bd,od,-,Q⟩:=(Z.aA q).L.LB;have y3:=((R.aA L).aA B).c3;have x3:=(S.aA B).c3;rw[zP] at x3;clear g0 g1 g2 g3 e ab ac ad h4 N D f;go_wp2_with fail;refine mo (abK om om P Q) fun w4 s4=> ?_;go_wp2;go_roundw
    case rel=>exact⟨b+1,om,by go_num,q.tr s4⟩
    case measure=>exact yI
  . have ai:¬((b:Int)<o):=om;go_wp2;go_ret;exact⟨rfl,X.tr s⟩
end Go.Proofs.YtinihjgnnlemmaaGreatDoor
