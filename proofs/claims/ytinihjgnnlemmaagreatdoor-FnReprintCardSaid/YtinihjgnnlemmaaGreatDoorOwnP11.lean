import Derived.Test.YtinihjgnnlemmaaGreatDoorOwnP4
import Derived.Maps.AppendAt
import Derived.Lib.Explode
set_option maxHeartbeats 6400000
set_option maxRecDepth 100000
namespace Go.Proofs.YtinihjgnnlemmaaGreatDoor
open Tryz Go.RowKit
variable{w v W V:World}{n m c d k i j l o b p q t r s g h e:Nat}
def bt(s:ByteArray)(k:Nat):Nat:=(s.data.toList[k]?.getD 0).toNat
theorem ti{s:ByteArray}(h:n<s.size):(s[n]'h).toNat=bt s n:=by
 have hq:n<s.data.toList.length:=by rw[<-Lib.size_eq];exact h
 have e:s[n]'h=s.data.toList[n]'hq:=rfl;simp only[bt,aK hq,gI,e]
theorem am1(s:ByteArray)(n:Nat):bt s n<256:=UInt8.toNat_lt _
def c9(s:ByteArray):Prop:=∀k,k<s.size->48<=bt s k/\bt s k<=57
def lE(s:ByteArray):Bool:= @decide (c9 s) (inferInstanceAs (Decidable (∀k,k<s.size->48<=bt s k/\bt s k<=57)))&&decide (0<s.size)
theorem ae9{s:ByteArray}(b:k<s.size)(h:bt s k<48∨57<bt s k):lE s=false:=by
 have:¬c9 s:=fun a=>by have:=a k b;omega
 simp[lE,this]
theorem agj{s:ByteArray}(h:∀k,k<s.size->48<=bt s k/\bt s k<=57):lE s=decide (0<s.size):=by
 have:c9 s:=h;simp[lE,this]
theorem dgR{p:Prop}(h:p:=by
 obtain⟨k,hk,rfl,sm,HD⟩:=hrel;by_cases hlt:k<s.size
 . have hlt':(k:Int)<(s.size:Int):=om;have hx:=ti hlt;have hx2:=am1 s k;by_cases c1:bt s k<48
   . obtain rfl:d=false:=(by rw[HD0.out];exact ae9 hlt (Or.inl c1));obtain⟨x,ex⟩:∃x,x=bt s k:=⟨_,rfl⟩;rw[<-ex] at hx hx2 c1;clear ex;go_wp2;go_ret;exact⟨rfl,sm⟩
   . by_cases c2:57<bt s k
     . obtain rfl:d=false:=(by rw[HD0.out];exact ae9 hlt (Or.inr c2));obtain⟨x,ex⟩:∃x,x=bt s k:=⟨_,rfl⟩;rw[<-ex] at hx hx2 c1 c2;clear ex;go_wp2;go_ret;exact⟨rfl,sm⟩
     . have HD1:Hid (∀j,j<k+1->48<=bt s j/\bt s j<=57):=eI (fun j hj=>by
        by_cases e:j=k
        . subst e;omega
        . exact HD.out j om)
       obtain⟨x,ex⟩:∃x,x=bt s k:=⟨_,rfl⟩;rw[<-ex] at hx hx2 c1 c2;clear ex;go_wp2;go_roundw
       case rel=>exact⟨k+1,om,by go_num,sm,HD1⟩
       case measure=>exact yI
 . have e:k=s.size:=om;obtain rfl:d=decide (0<s.size):=(by rw[HD0.out];exact agj (fun j hj=>HD.out j om));go_wp2;go_ret;exact⟨rfl,sm⟩):p:=h
theorem yB{s:ByteArray}{w:World}(c:s.size<=16777217):
 Cl 68 #[.string s] w fun e b=>e=.returned (.bool (lE s))/\Same w b:=by
 obtain⟨d,a⟩:∃d,d=lE s:=⟨_,rfl⟩;rw[<-a];have HD0:=eI a;clear a;go_enter func68,ntmps68;go_wp2;go_loopw [3] (fun t wr=>∃k:Nat,k<=s.size/\t=.i k/\Same w wr/\Hid (∀j,j<k->48<=bt s j/\bt s j<=57)) (fun t _=>s.size-(intOf t).toNat)
 case atStart=>exact⟨0,aJ _,rfl,Same.refl _,eI (fun j hj=>absurd hj om)⟩
 case round=>exact dgR
theorem ud{s:ByteArray}{w:World}(c:s.size<=16777217):
 Cl 83 #[.string s] w fun e b=>e=.returned (.bool (lE s))/\Same w b:=by
 obtain⟨d,a⟩:∃d,d=lE s:=⟨_,rfl⟩;rw[<-a];have HD0:=eI a;clear a;go_enter func83,ntmps83;go_wp2;go_loopw [6] (fun t wr=>∃k:Nat,k<=s.size/\t=.i k/\Same w wr/\Hid (∀j,j<k->48<=bt s j/\bt s j<=57)) (fun t _=>s.size-(intOf t).toNat)
 case atStart=>exact⟨0,aJ _,rfl,Same.refl _,eI (fun j hj=>absurd hj om)⟩
 case round=>exact dgR
theorem pd(s:ByteArray)(h:i<=j)(a:j<=s.size):(s.extract i j).size=j-i:=by
 rw[Lib.size_eq,Lib.extract_data,jR,List.length_drop,<-Lib.size_eq];omega
theorem pL(s:ByteArray)(h:n<j-i):bt (s.extract i j) n=bt s (i+n):=by
 unfold bt;rw[Lib.extract_data,oS h,pM]
theorem mq{a b:ByteArray}(h:a.data.toList=b.data.toList):a=b:=by
 cases a;cases b;congr;exact Array.toList_inj.1 h
theorem ame{s t:ByteArray}(d:s.size=t.size)(h:∀k,k<s.size->bt s k=bt t k):s=t:=by
 apply mq;apply List.ext_getElem
 . rw[<-Lib.size_eq,<-Lib.size_eq,d]
 . intro k a b;have c:k<s.size:=(by rw[Lib.size_eq];exact a);have:=h k c;unfold bt at this;rw[aK a,aK b] at this;exact UInt8.toNat_inj.1 this
theorem pt(s:ByteArray):(firstIdx s 47=-1/\∀k,k<s.size->bt s k≠47)∨∃i,i<s.size/\firstIdx s 47=(i:Int)/\bt s i=47/\∀k,k<i->bt s k≠47:=by
 have b:∀k,k<s.size->((s[k]! ==47)=true↔bt s k=47):=fun k a=>by rw[getElem!_pos s k a,jJ,<-ti a,<-UInt8.toNat_inj];exact Iff.rfl
 unfold firstIdx;cases e:(List.range s.size).find? fun i=>s[i]! ==47 with
 | none=>
   refine Or.inl ⟨rfl,fun k a h=> ?_⟩;have:=List.find?_eq_none.1 e k (dU.2 a);exact this ((b k a).2 h)
 | some i=>
   obtain⟨d,f,g⟩:=List.find?_range_eq_some.1 e;have c:=dU.1 f;refine Or.inr ⟨i,c,rfl,(b i c).1 d,fun k a h=> ?_⟩;have:=g k a;rw[(b k om).2 h] at this;cases this
theorem acW{s:ByteArray}:
 Cl 203 #[.string s,.int .u8 47] w fun e a=>e=.returned (.i (firstIdx s 47))/\a=w:=by
 go_enter func203,ntmps203;go_wp2;rw[run_callFunc_extern func225 kr kr kr (e:=Extern.BytealgIndexByte.indexByte) kr,run_indexByte_string];simp only[Result.andThen];rw[Oper.upon_value];go_wp2;go_ret;exact⟨rfl,rfl⟩
theorem ajZ{s t:ByteArray}{w:World}(o:s.size<=16777217)(p:t.size=1)(d:bt t 0=47):
 Cl 168 #[.string s,.string t] w fun e l=>e=.returned (.i (firstIdx s 47))/\l=w:=by
 obtain⟨z,a⟩:∃z,z=firstIdx s 47:=⟨_,rfl⟩;rw[<-a];have q:(t.size:Int)=1:=om;have b:0<t.size:=om;have hb:=(ti b).trans d;by_cases h:t.toList=s.toList
 . have k:t=s:=mq (by rw[<-Lib.toList_data,<-Lib.toList_data,h]);subst k;have j:(t.toList==t.toList)=true:=by simp
   obtain rfl:z=0:=by
    rw[a];rcases pt t with ⟨-,c⟩ | ⟨i,c,g,m,n⟩
    . exact absurd d (c 0 b)
    . rw[g];have:i=0:=om;omega
   go_enter func168,ntmps168;go_wp2;go_ret;exact⟨rfl,rfl⟩
 . have j:(t.toList==s.toList)=false:=(by simpa using h);have f:=eI a;go_enter func168,ntmps168;go_wp2_with fail;refine mp (acW) ?_;go_wp2;go_ret;exact⟨jq f.out.symm,rfl⟩
theorem amr{s t:ByteArray}{w:World}(f:s.size<=16777217)(g:t.size=1)(c:bt t 0=47):
 Cl 208 #[.string s,.string t] w fun e h=>Same w h/\((firstIdx s 47=-1/\e=.returned (.tuple #[.string s,.string ByteArray.empty,.bool false]))∨∃i:Nat,i<s.size/\firstIdx s 47=(i:Int)/\e=.returned (.tuple #[.string (s.extract 0 i),.string (s.extract (i+1) s.size),.bool true])):=by
 have l:(t.size:Int)=1:=om;have J:=@ajZ s t w f g c;rcases pt s with ⟨a,-⟩ | ⟨i,d,a,-,-⟩
 . rw[a] at J;have b:=eI a;go_enter func208,ntmps208;go_wp2_with fail;refine J.mono ?_;rintro e j ⟨rfl,rfl⟩;go_wp2;go_ret3;exact⟨Same.refl _,Or.inl ⟨b.out,rfl⟩⟩
 . rw[a] at J;have b:=eI a;have k:(0:Int)<=i:=om;go_enter func208,ntmps208;go_wp2_with fail;refine mp J ?_;go_wp2;go_quiet (fail);go_wp2;go_ret3;exact⟨(Same.refl _).drewN _,Or.inr ⟨i,d,b.out,rfl⟩⟩
theorem anM{s t:ByteArray}{w:World}(f:s.size<=16777217)(g:t.size=1)(c:bt t 0=47):
 Cl 170 #[.string s,.string t] w fun e h=>Same w h/\((firstIdx s 47=-1/\e=.returned (.tuple #[.string s,.string ByteArray.empty,.bool false]))∨∃i:Nat,i<s.size/\firstIdx s 47=(i:Int)/\e=.returned (.tuple #[.string (s.extract 0 i),.string (s.extract (i+1) s.size),.bool true])):=by
 have J:=@amr s t w f g c;go_enter func170,ntmps170;go_wp2_with fail;refine J.mono ?_;rintro e j ⟨b,⟨a,rfl⟩ | ⟨i,d,a,rfl⟩⟩
 . go_wp2;go_ret3;exact⟨b,Or.inl ⟨a,rfl⟩⟩
 . go_wp2;go_ret3;exact⟨b,Or.inr ⟨i,d,a,rfl⟩⟩
def vO(s:ByteArray):Bool:=decide (0<s.size)&&decide (bt s 0=45)
theorem aoN{s t:ByteArray}(e:0<s.size)(g:t.size=1)(c:bt t 0=45):((s.extract 0 1).toList==t.toList)=decide (bt s 0=45):=by
 have d:(s.extract 0 1).size=1:=pd s om om;have b:bt (s.extract 0 1) 0=bt s 0:=pL s om;rw[gG,jJ,jU];constructor
 . intro h;have a:s.extract 0 1=t:=mq (by rw[<-Lib.toList_data,<-Lib.toList_data,h]);rw[<-b,a];exact c
 . intro h;have a:s.extract 0 1=t:=ame om (fun k f=>by rw[show k=0 by omega,b,h,c]);rw[a]
theorem ac0{s t:ByteArray}{w:World}(k:s.size<=16777217)(i:t.size=1)(g:bt t 0=45):
 Cl 207 #[.string s,.string t] w fun e j=>Same w j/\e=.returned (.tuple #[.string (if vO s then s.extract 1 s.size else s),.bool (vO s)]):=by
 have l:(t.size:Int)=1:=om;by_cases b:0<s.size
 . have d:=aoN b i g;have f:(1:Int)<=(s.size:Int):=om;by_cases c:bt s 0=45
   . have a:vO s=true:=(by simp[vO,b,c]);rw[a,aY rfl];have h:((s.extract 0 1).toList==t.toList)=true:=(by rw[d];simp[c]);go_enter func207,ntmps207;go_wp2;go_ret2;exact⟨Same.refl _,rfl⟩
   . have a:vO s=false:=(by simp[vO,c]);rw[a,aM qz];have h:((s.extract 0 1).toList==t.toList)=false:=(by rw[d];simp[c]);go_enter func207,ntmps207;go_wp2;go_ret2;exact⟨Same.refl _,rfl⟩
 . have a:vO s=false:=(by simp[vO,b]);have f:¬(1:Int)<=(s.size:Int):=om;rw[a,aM qz];go_enter func207,ntmps207;go_wp2;go_ret2;exact⟨Same.refl _,rfl⟩
theorem adc{s t:ByteArray}{w:World}(d:s.size<=16777217)(f:t.size=1)(c:bt t 0=45):
 Cl 169 #[.string s,.string t] w fun e i=>Same w i/\e=.returned (.tuple #[.string (if vO s then s.extract 1 s.size else s),.bool (vO s)]):=by
 have J:=@ac0 s t w d f c;obtain⟨u,b⟩:∃u,u=if vO s then s.extract 1 s.size else s:=⟨_,rfl⟩;obtain⟨g,a⟩:∃g,g=vO s:=⟨_,rfl⟩;rw[<-b,<-a] at J⊢;clear b a;go_enter func169,ntmps169;go_wp2_with fail;refine J.mono ?_;rintro e j ⟨h,rfl⟩;go_wp2;go_ret2;exact⟨h,rfl⟩
def lV(c:UInt8):List UInt8->List (List UInt8)
 | []=>[[]]
 | x::xs=>if x=c then []::lV c xs else match lV c xs with
   | p::ps=>(x::p)::ps
   | []=>[[x]]
theorem yS(c:UInt8):∀l,lV c l≠[]
 | []=>by simp[lV]
 | x::xs=>by
   unfold lV
   split
   . simp
   . cases lV c xs<;>simp
theorem sT(c:UInt8):∀l,c∉l->lV c l=[l]
 | [],_=>rfl
 | x::xs,h=>by
   simp only[fW,not_or] at h;rw[lV,aM (fun e=>h.1 e.symm),sT c xs h.2]
theorem sY(c:UInt8)(b:List UInt8):∀a,c∉a->lV c (a++c::b)=a::lV c b
 | [],_=>by simp[lV]
 | x::xs,h=>by
   simp only[fW,not_or] at h;rw[mY,lV,aM (fun e=>h.1 e.symm),sY c b xs h.2]
theorem agn(c:UInt8):∀l,(lV c l).length<=l.length+1
 | []=>by simp[lV]
 | x::xs=>by
   have h:=agn c xs;unfold lV
   split
   . simp;omega
   . cases e:lV c xs with
     | nil=>simp
     | cons p ps=>rw[e] at h;simp at h⊢;omega
def jP(c:UInt8)(s:ByteArray):List ByteArray:=(lV c s.data.toList).map fun l=>⟨l.toArray⟩
theorem pm(c:UInt8)(s:ByteArray):(jP c s).length<=s.size+1:=by
 unfold jP;rw[bS,Lib.size_eq];exact agn c _
theorem back(s:ByteArray):(⟨s.data.toList.toArray⟩:ByteArray)=s:=by cases s;simp
theorem alp{s:ByteArray}{c:UInt8}(h:∀k,k<s.size->bt s k≠c.toNat):c∉s.data.toList:=fun b=>by
 obtain⟨k,a,e⟩:=List.getElem_of_mem b;refine h k (by rw[Lib.size_eq];exact a) ?_;unfold bt;rw[aK a,gI,e]
theorem dr{c:UInt8}{s:ByteArray}(h:∀k,k<s.size->bt s k≠c.toNat):jP c s=[s]:=by
 unfold jP;rw[sT c _ (alp h)];simp
theorem eh{c:UInt8}{s:ByteArray}(l:i<s.size)(hb:bt s i=c.toNat)(h:∀k,k<i->bt s k≠c.toNat):jP c s=s.extract 0 i::jP c (s.extract (i+1) s.size):=by
 have hl:i<s.data.toList.length:=by rw[<-Lib.size_eq];exact l
 have a:(s.extract 0 i).data.toList=s.data.toList.take i:=by rw[Lib.extract_data,List.drop_zero,Nat.sub_zero]
 have b:(s.extract (i+1) s.size).data.toList=s.data.toList.drop (i+1):=by rw[Lib.extract_data,dV];rw[List.length_drop,<-Lib.size_eq];omega
 have d:s.data.toList[i]'hl=c:=by unfold bt at hb;rw[aK hl,gI] at hb;exact UInt8.toNat_inj.1 hb
 have e:s.data.toList=s.data.toList.take i++c::s.data.toList.drop (i+1):=by conv=>lhs;rw[<-tI i s.data.toList,List.drop_eq_getElem_cons hl,d]
 have j:c∉s.data.toList.take i:=by rw[<-a];refine alp (fun k g=> ?_);rw[pd s (aJ _) om] at g;rw[pL s om,aZ];exact h k om
 have f:(⟨(s.data.toList.take i).toArray⟩:ByteArray)=s.extract 0 i:=by rw[<-a,back]
 unfold jP;rw[b]
 conv=>lhs;rw[e]
 rw[sY c _ _ j,dG,f]
structure ae(c:UInt8)(s:ByteArray)(i:Nat)(ps:List ByteArray)(f:Nat):Prop where
 le:f<=i
 no:∀k,f<=k->k<i->bt s k≠c.toNat
 eq:jP c s=ps++jP c (s.extract f s.size)
theorem ae.start(c:UInt8)(s:ByteArray):ae c s 0 [] 0:=⟨aC _,fun k _ h=>absurd h om,by rw[Lib.whole_piece];rfl⟩
theorem ae.skip{c:UInt8}{s:ByteArray}{a:List ByteArray}(h:ae c s n a m)(hb:bt s n≠c.toNat):ae c s (n+1) a m:=
 ⟨by have:=h.le;omega,fun k b d=>by
   by_cases e:k=n
   . subst e;exact hb
   . exact h.no k b om,h.eq⟩
theorem amc(s:ByteArray)(hb:n+c<=s.size):(s.extract n s.size).extract m c=s.extract (n+m) (n+c):=by
 apply mq;rw[Lib.extract_data,Lib.extract_data,Lib.extract_data,List.drop_take,List.drop_drop,List.take_take];congr 1;omega
theorem ae.hit{c:UInt8}{s:ByteArray}{a:List ByteArray}(h:ae c s n a m)(f:n<s.size)(hb:bt s n=c.toNat):ae c s (n+1) (a++[s.extract m n]) (n+1):=by
 have l:=h.le;refine⟨aC _,fun k b g=>absurd b om, ?_⟩;have d:(s.extract m s.size).size=s.size-m:=pd s om zR;have e:=eh (c:=c) (s:=s.extract m s.size) (i:=n-m) om (by rw[pL s om,show m+(n-m)=n by omega];exact hb) (fun k j=>by
  rw[pL s om];exact h.no _ om om)
 rw[h.eq,e,d,amc s om,amc s om,show m+(n-m)=n by omega,show m+0=m by omega,show m+(n-m+1)=n+1 by omega,show m+(s.size-m)=s.size by omega];simp
theorem ae.end_{c:UInt8}{s:ByteArray}{a:List ByteArray}(h:ae c s s.size a n):a++[s.extract n s.size]=jP c s:=by
 have d:=h.le;rw[h.eq,dr (s:=s.extract n s.size)];intro k b;rw[pd s d zR] at b;rw[pL s om];exact h.no _ om om
theorem c1:(Tryz.prog.info? 9).map (fun i=>(i.zero,i.size,i.bytes))=some (some (.string ByteArray.empty),1,16):=by kernel_rfl
theorem cf{c:UInt8}{s:ByteArray}{w:World}(U:s.size<=2000000000000):
 Cl 33 #[.string s,.int .u8 (c.toNat:Int),.int .u8 (c.toNat:Int)] w fun e H=>∃v,e=.returned v/\H.ownsRow w.heap.size 9 1 v (jP c s).length ((jP c s).map Value.string)/\w.S H:=by
 obtain⟨G,A,D,E,F⟩:=kT c1;obtain⟨j,d⟩:∃j:Nat,c.toNat=j:=⟨_,rfl⟩;rw[d];go_enter func33,ntmps33;go_wp2;go_loopw [7,8,9] (fun v f t wr=>∃(i fr:Nat) (a:List ByteArray),i<=s.size/\fr<=i/\t=.i i/\f=.i fr/\wr.ownsRow w.heap.size 9 1 v a.length (a.map Value.string)/\Hid (ae c s i a fr)/\a.length<=i/\w.S wr) (fun _ _ t _=>s.size-(intOf t).toNat)
 case atStart=>exact⟨0,0,[],aJ _,aC _,rfl,rfl,iP w #[] 0 zR qd rfl,eI (ae.start c s),aC _,fA _ _⟩
 case round=>
  obtain⟨i,fr,a,R,Q,rfl,rfl,l,n,T,b⟩:=hrel;have V:=b.size;by_cases B:i<s.size
  . have S:(i:Int)<(s.size:Int):=om;have C:=ti B;have L:=am1 s i;by_cases o:bt s i=j
    . have g:=eI (n.out.hit B (o.trans d.symm));rw[o] at C;have O:(0:Int)<=fr:=om;have P:(fr:Int)<=i:=om;have y:=eI d;go_wp2_with (at_builtin;refine gK _ rfl _ _ 36 rfl w.heap.size 9 G (.string ByteArray.empty) 1 16 underlying36 A D E F rfl qd _ _ _ rfl (l.alloc _) (jj wr.heap.size 0) 1 1 [.string (s.extract fr i)] rfl rfl (iq _ _ _) (one_one _ rfl) (by unfold maxLen;omega) om (by simp;omega) ?_);intro M N m q K;have u:=(b.alloc b.size _).grown q (by simp;omega) (fun k r=>(l.lt k r).1);rw[show a.map Value.string++[.string (s.extract fr i)]=(a++[s.extract fr i]).map Value.string by simp,show a.length+1=(a++[s.extract fr i]).length by simp] at m;go_wp2;go_roundw
      case rel=>exact⟨i+1,i+1,_,om,om,by go_num,by go_num,m,g,by simp;omega,u⟩
      case measure=>exact yI
    . have g:=eI (n.out.skip (fun e=>o (e.trans d)));have z:¬((bt s i:Int)=j):=om;obtain⟨x,I⟩:∃x,x=bt s i:=⟨_,rfl⟩;rw[<-I] at C L z;have W:((x:Int)==(j:Int))=false:=(by simpa using z);have y:=eI d;go_wp2;go_roundw
      case rel=>exact⟨i+1,fr,a,om,om,by go_num,rfl,l,g,om,b⟩
      case measure=>exact yI
  . have e:i=s.size:=om;subst e;have g:=eI n.out.end_;have y:=eI d;go_wp2_with (at_builtin;refine gK _ rfl _ _ 36 rfl w.heap.size 9 G (.string ByteArray.empty) 1 16 underlying36 A D E F rfl qd _ _ _ rfl (l.alloc _) (jj wr.heap.size 0) 1 1 [.string (s.extract fr s.size)] rfl rfl (iq _ _ _) (one_one _ rfl) (by unfold maxLen;omega) om (by simp;omega) ?_);intro M N m q K;have u:=(b.alloc b.size _).grown q (by simp;omega) (fun k r=>(l.lt k r).1);rw[show a.map Value.string++[.string (s.extract fr s.size)]=(a++[s.extract fr s.size]).map Value.string by simp,show a.length+1=(a++[s.extract fr s.size]).length by simp,g.out] at m;go_wp2;go_ret;exact⟨_,rfl,m,u⟩
theorem qK(s:ByteArray)(c:UInt8):(firstIdx s c=-1/\∀k,k<s.size->bt s k≠c.toNat)∨∃i,i<s.size/\firstIdx s c=(i:Int)/\bt s i=c.toNat/\∀k,k<i->bt s k≠c.toNat:=by
 have b:∀k,k<s.size->((s[k]! ==c)=true↔bt s k=c.toNat):=fun k a=>by rw[getElem!_pos s k a,jJ,<-ti a,<-UInt8.toNat_inj]
 unfold firstIdx;cases e:(List.range s.size).find? fun i=>s[i]! ==c with
 | none=>
   refine Or.inl ⟨rfl,fun k a h=> ?_⟩;have:=List.find?_eq_none.1 e k (dU.2 a);exact this ((b k a).2 h)
 | some i=>
   obtain⟨f,g,j⟩:=List.find?_range_eq_some.1 e;have d:=dU.1 g;refine Or.inr ⟨i,d,rfl,(b i d).1 f,fun k a h=> ?_⟩;have:=j k a;rw[(b k om).2 h] at this;cases this
theorem amy(c:UInt8):((c.toNat:Int)).toNat.toUInt8=c:=by
 rw[iL];exact UInt8.ofNat_toNat
theorem aga{c:UInt8}{s:ByteArray}{w:World}:
 Cl 203 #[.string s,.int .u8 (c.toNat:Int)] w fun e g=>e=.returned (.i (firstIdx s c))/\g=w:=by
 have a:∀w,(Extern.BytealgIndexByte.indexByte #[.string s,.int .u8 (c.toNat:Int)]).run Tryz.prog w=.ok (.i (firstIdx s c)) w:=fun w=>by rw[run_indexByte_string,amy]
 obtain⟨b,d⟩:∃b:Nat,c.toNat=b:=⟨_,rfl⟩;rw[d] at a⊢;obtain⟨z,f⟩:∃z,firstIdx s c=z:=⟨_,rfl⟩;rw[f] at a⊢;go_enter func203,ntmps203;go_wp2;rw[run_callFunc_extern func225 kr kr kr (e:=Extern.BytealgIndexByte.indexByte) kr,a];simp only[Result.andThen];rw[Oper.upon_value];go_wp2;go_ret;exact⟨rfl,rfl⟩
theorem an7{c:UInt8}{s:ByteArray}{w:World}(r:s.size<=1048577):
 Cl 168 #[.string s,.string ⟨#[c]⟩] w fun e o=>e=.returned (.i (firstIdx s c))/\o=w:=by
 have J:=@aga c s w;obtain⟨z,b⟩:∃z,z=firstIdx s c:=⟨_,rfl⟩;rw[<-b] at J⊢;obtain⟨t,a⟩:∃t:ByteArray,t=⟨#[c]⟩:=⟨_,rfl⟩;rw[<-a];have u:t.size=1:=by rw[a];rfl
 have v:(t.size:Int)=1:=om;have f:0<t.size:=om;have j:bt t 0=c.toNat:=by rw[a];rfl
 have hb:=(ti f).trans j;by_cases h:t.toList=s.toList
 . have k:t=s:=mq (by rw[<-Lib.toList_data,<-Lib.toList_data,h]);have m:(t.toList==t.toList)=true:=by simp
   obtain rfl:z=0:=by
    rw[b,<-k];rcases qK t c with ⟨-,g⟩ | ⟨i,g,l,p,q⟩
    . exact absurd j (g 0 f)
    . rw[l];have:i=0:=om;omega
   subst k;clear b J a;go_enter func168,ntmps168;go_wp2;go_ret;exact⟨rfl,rfl⟩
 . have m:(t.toList==s.toList)=false:=(by simpa using h);clear b a;obtain⟨d,n⟩:∃d:Nat,c.toNat=d:=⟨_,rfl⟩;rw[n] at hb J;go_enter func168,ntmps168;go_wp2_with fail;refine mp J ?_;go_wp2;go_ret;exact⟨rfl,rfl⟩
theorem abC{c:UInt8}{s:ByteArray}{w:World}(b:s.size<=1048577):
 Cl 124 #[.string s,.string ⟨#[c]⟩] w fun e d=>e=.returned (.i (firstIdx s c))/\d=w:=by
 have J:=@an7 c s w b;obtain⟨t,a⟩:∃t:ByteArray,t=⟨#[c]⟩:=⟨_,rfl⟩;rw[<-a] at J⊢;clear a;go_enter func124,ntmps124;go_wp2_with fail;refine mp J ?_;go_wp2;go_ret;exact⟨rfl,rfl⟩
theorem xS(c:UInt8):∀l:List UInt8,(lV c l).length=l.count c+1
 | []=>by simp[lV]
 | x::xs=>by
   have h:=xS c xs;unfold lV
   by_cases e:x=c
   . rw[aY e,fS,h,e,List.count_cons_self]
   . rw[aM e,List.count_cons_of_ne e,<-h]
     cases e2:lV c xs with
     | nil=>exact absurd e2 (yS c xs)
     | cons p ps=>simp
theorem abD{c:UInt8}{s:ByteArray}{n:Nat}(f:(jP c s).length=n+1){w:World}:
 Cl 123 #[.string s,.string ⟨#[c]⟩] w fun e h=>e=.returned (.i (n:Int))/\h=w:=by
 have g:∀w,(Extern.BytealgCount.count #[.string s,.int .u8 (c.toNat:Int)]).run Tryz.prog w=.ok (.i (n:Int)) w:=fun w=>by
  rw[Lib.run_countString,amy];have:=xS c s.data.toList;unfold jP at f;rw[bS] at f;have e:Lib.countByte s.data.toList c=n:=by show List.count c _=n;omega
  rw[e]
 obtain⟨t,a⟩:∃t:ByteArray,t=⟨#[c]⟩:=⟨_,rfl⟩;rw[<-a];have i:t.size=1:=by rw[a];rfl
 have j:(t.size:Int)=1:=om;have h0:0<t.size:=om;have hb:(t[0]'h0).toNat=c.toNat:=(ti h0).trans (by rw[a];rfl);obtain⟨b,d⟩:∃b:Nat,c.toNat=b:=⟨_,rfl⟩;rw[d] at hb g;clear a d;go_enter func123,ntmps123;go_wp2;rw[run_callFunc_extern func167 kr kr kr (e:=Extern.BytealgCount.count) kr,g];simp only[Result.andThen];rw[Oper.upon_value];go_wp2;go_ret;exact⟨rfl,rfl⟩
def ja(s:ByteArray):List ByteArray:=(jP 32 s).filter fun p=>decide (0<p.size)
def ip:Nat->List ByteArray->List (Nat×List ByteArray)
 | _,[]=>[]
 | t,l::ls=>if ja l=[] then ip (t+1) ls else (t+1,ja l)::ip (t+1) ls
theorem af8(n:Nat)(a b:List ByteArray):ip n (a++b)=ip n a++ip (n+a.length) b:=by
 induction a generalizing n with
 | nil=>simp[ip]
 | cons x xs ih=>
   rw[mY,ip,ip,ih (n+1),fS,show n+1+xs.length=n+(xs.length+1) by omega];split<;>simp
theorem ahm{L:List ByteArray}{l:ByteArray}(h:L[n]?=some l)(hb:ja l=[]):ip n (L.drop n)=ip (n+1) (L.drop (n+1)):=by
 obtain⟨hl,e⟩:=bG.1 h;rw[List.drop_eq_getElem_cons hl,e,ip,aY hb]
theorem ajG{L:List ByteArray}{l:ByteArray}(h:L[n]?=some l)(hb:ja l≠[]):ip n (L.drop n)=(n+1,ja l)::ip (n+1) (L.drop (n+1)):=by
 obtain⟨hl,e⟩:=bG.1 h;rw[List.drop_eq_getElem_cons hl,e,ip,aM hb]
theorem al5{L:List ByteArray}(h:L.length<=n):ip n (L.drop n)=[]:=by
 rw[List.drop_of_length_le h];rfl
theorem amd(s:ByteArray)(n m:Nat):(s.extract n m).size<=s.size:=by
 rw[Lib.size_eq,Lib.extract_data,jR,List.length_drop,<-Lib.size_eq];omega
theorem cn(c:UInt8):∀(l p:List UInt8),p∈lV c l->p.length<=l.length
 | [],p,h=>by simp[lV] at h;subst h;simp
 | x::xs,p,h=>by
   unfold lV at h
   split at h
   . rcases fW.1 h with rfl | h
     . simp
     . have:=cn c xs p h
       simp;omega
   . cases e:lV c xs with
     | nil=>exact absurd e (yS c xs)
     | cons q qs=>
       rw[e] at h;simp only[fW] at h
       rcases h with rfl | h
       . have:=cn c xs q (by rw[e];simp)
         simp;omega
       . have:=cn c xs p (by rw[e];simp[h])
         simp;omega
theorem xF{c:UInt8}{s p:ByteArray}(h:p∈jP c s):p.size<=s.size:=by
 unfold jP at h;obtain⟨l,hl,rfl⟩:=dT.1 h;have:=cn c _ l hl;rw[<-Lib.size_eq] at this;show l.toArray.size<=s.size;rw[List.size_toArray];exact this
theorem aeW{s p:ByteArray}(h:p∈ja s):p.size<=s.size/\0<p.size:=by
 unfold ja at h;obtain⟨a,b⟩:=mP.1 h;exact⟨xF a,by simpa using b⟩
theorem amZ{c:UInt8}{s:ByteArray}(h:(jP c s).length=1):jP c s=[s]:=by
 rcases qK s c with ⟨-,a⟩ | ⟨i,a,-,b,d⟩
 . exact dr a
 . rw[eh a b d] at h;have:=yS c (s.extract (i+1) s.size).data.toList;unfold jP at h;simp only[fS,bS] at h;have:(lV c (s.extract (i+1) s.size).data.toList).length=0:=om;rw[List.length_eq_zero_iff] at this;contradiction
theorem amY{c:UInt8}{s:ByteArray}(h:2<=(jP c s).length):∃i,i<s.size/\firstIdx s c=(i:Int)/\jP c s=s.extract 0 i::jP c (s.extract (i+1) s.size):=by
 rcases qK s c with ⟨-,a⟩ | ⟨i,a,b,d,e⟩
 . rw[dr a] at h;simp at h
 . exact⟨i,a,b,eh a d e⟩
theorem cc(c:UInt8)(s:ByteArray):1<=(jP c s).length:=by
 unfold jP;rw[bS,xS];omega
theorem ahA{c:UInt8}{s:ByteArray}{w:World}(hs:s.size<=1048576):
 Cl 79 #[.string s,.string ⟨#[c]⟩,.i 0,.i (-1)] w fun e v=>e=.returned (.s w.heap.size (jP c s).length (jP c s).length)/\Hid (∀(j:Nat) (x:ByteArray),(jP c s)[j]?=some x->v.cell? (jj w.heap.size j)=some (.string x))/\w.heap.size<v.heap.size/\w.S v:=by
 obtain⟨n,k⟩:∃n,(jP c s).length=n+1:=⟨(jP c s).length-1,by have:=cc c s;omega⟩;have ag:n+1<=s.size+1:=by rw[<-k];exact pm c s
 have z:=@abD c s n k w;have H:=fun r w h=>@abC c r w h;have E:=eI k;rw[k];obtain⟨t,l⟩:∃t:ByteArray,t=⟨#[c]⟩:=⟨_,rfl⟩;rw[<-l] at z⊢;have ai:t.size=1:=by rw[l];rfl
 have aj:(t.size:Int)=1:=om;have ah:t.toList.isEmpty=false:=by rw[Lib.toList_data,l];rfl
 have G:=eI l;have ae:min ((n:Int)+1) ((s.size:Int)+1)=(n:Int)+1:=om;have K:((n+1:Nat):Int)=n+1:=om;have Q:=run_make_row' (P:=Tryz.prog) 36 9 (.string ByteArray.empty) 16 underlying36 c1 rfl .i64 .i64 (n+1) om om;simp only[K] at Q;have Y:=iY w (.string ByteArray.empty) (n+1) 9;have Z:=fA w (.o (madeCells #[.string ByteArray.empty] (n+1)) 9);clear k l;go_enter func79,ntmps79;go_wp2_with fail;refine z.mono ?_;rintro e g ⟨rfl,rfl⟩;go_wp2_with fail;have af:(n:Int)+1-1=(n:Int):=om;generalize g.alloc _=wA at*;go_loopw [0,10] (fun p i wr=>∃(done:List ByteArray) (r:ByteArray) (f:Nat->Value),p=.string r/\i=.i (done.length:Int)/\done.length<=n/\r.size<=s.size/\Hid (jP c s=done++jP c r)/\wr.rowIs g.heap.size 9 (n+1) f/\Hid (∀(j:Nat) (x:ByteArray),done[j]?=some x->f j=.string x)/\g.S wr) (fun _ i _=>n-(intOf i).toNat)
 case atStart=>exact⟨[],s,_,rfl,rfl,aJ _,aC _,eI rfl,Y,eI (fun j x h=>by simp at h),Z⟩
 case round=>
  obtain⟨done,r,f,rfl,rfl,M,C,o,R,y,S⟩:=hrel;have U:(jP c r).length=n+1-done.length:=by have:=congrArg List.length o.out;rw[E.out,aT] at this;omega
  have lr:=R.lt;obtain⟨d,B⟩:∃d,done.length=d:=⟨_,rfl⟩;rw[B] at M U⊢;have b:=eI B;by_cases ac:d<n
  . have ad:(d:Int)<n:=om;obtain⟨i,ab,O,P⟩:=amY (c:=c) (s:=r) om;have D:=eI P;have A:=H r wr om;rw[O,<-G.out] at A;have W:(r.extract (i+1) r.size).size<=s.size:=aU (amd r _ _) C;have ak:(r.extract 0 i).size<=s.size:=aU (amd r _ _) C;have I:wr.cell? (jj g.heap.size d)=some (f d):=R.cell om;have L:=R.frozen d;have m:=R.set d (.string (r.extract 0 i));have q:g.S (wr.setCell (jj g.heap.size d) (.string (r.extract 0 i))):=S.setCell zR _;have ii:¬((i:Int)<0):=om;have i2:(i:Int)<=(r.size:Int):=om;have i3:(i:Int)+1<=(r.size:Int):=om;have N:(d:Int)<n+1:=om;go_wp2_with fail;refine mo A fun w2 V=> ?_;subst V;go_wp2;go_roundw
    case rel=>
     refine⟨done++[r.extract 0 i],r.extract (i+1) r.size,_,rfl, ?_, ?_,W,eI ?_,m,eI ?_,q⟩
     . rw[aT,b.out];simp
     . rw[aT,b.out];simp;omega
     . rw[o.out,D.out];simp
     . intro j x a;show (if j=d then Value.string (r.extract 0 i) else f j)=.string x;by_cases e:j=d
       . subst e;rw[bK (by rw[b.out];exact aC _),b.out,uD] at a;simp at a;rw[aY rfl,a]
       . rw[aM e];by_cases u:j<done.length
         . rw[bJ u] at a;exact y.out j x a
         . rw[dJ (by rw[aT];have:=b.out;simp;omega)] at a;cases a
    case measure=>exact yI
  . have e:d=n:=om;subst e;have T:=amZ (c:=c) (s:=r) om;have I:wr.cell? (jj g.heap.size d)=some (f d):=R.cell om;have L:=R.frozen d;have m:=R.set d (.string r);have q:g.S (wr.setCell (jj g.heap.size d) (.string r)):=S.setCell zR _;have N:(d:Int)<d+1:=om;have F:=eI T;have X:=m.lt;go_wp2;go_ret;refine⟨rfl,eI (fun j x a=> ?_),X,q⟩;rw[o.out,F.out] at a;have u:j<d+1:=by
     have:=(bG.1 a).1;rw[aT,b.out] at this;simpa using this
    rw[m.cell u];show some (if j=d then Value.string r else f j)=some (.string x);by_cases e:j=d
    . subst e;rw[bK (by rw[b.out];exact aC _),b.out,uD] at a;simp at a;rw[aY rfl,a]
    . rw[aM e];rw[bJ (by rw[b.out];omega)] at a;rw[y.out j x a]
theorem aib{c:UInt8}{s:ByteArray}{w:World}(h:s.size<=1048576):
 Cl 49 #[.string s,.string ⟨#[c]⟩] w fun e a=>e=.returned (.s w.heap.size (jP c s).length (jP c s).length)/\Hid (∀(j:Nat) (x:ByteArray),(jP c s)[j]?=some x->a.cell? (jj w.heap.size j)=some (.string x))/\w.heap.size<a.heap.size/\w.S a:=by
 have J:=@ahA c s w h;obtain⟨t,b⟩:∃t:ByteArray,t=⟨#[c]⟩:=⟨_,rfl⟩;rw[<-b] at J⊢;clear b;go_enter func49,ntmps49;go_wp2_with fail;refine mo J fun i⟨d,f,g⟩=> ?_;go_wp2;go_ret;exact⟨rfl,d,f,g⟩
def e5(s:ByteArray)(qs:List ByteArray):Prop:=
 (qs=[s]/\∀k,k<s.size->bt s k≠47)∨
 (∃j,j<s.size/\bt s j=47/\(∀k,k<s.size->k≠j->bt s k≠47)/\qs=[s.extract 0 j,s.extract (j+1) s.size])∨
 (3<=qs.length/\∃j j',j<j'/\j'<s.size/\bt s j=47/\bt s j'=47)
theorem ao0{s:ByteArray}{l:List UInt8}(e:s.data.toList=l)(a:n<l.length)(h:bt s n=47):l[n]=47:=by
 unfold bt at h;rw[e,List.getElem?_eq_getElem a,Option.getD_some] at h;exact UInt8.toNat_inj.1 h
theorem ana(s:ByteArray):e5 s (jP 47 s):=by
 obtain⟨l,e⟩:∃l,s.data.toList=l:=⟨_,rfl⟩;have i:s.size=l.length:=by rw[Lib.size_eq,e]
 have t:s=⟨l.toArray⟩:=by rw[<-e,back]
 unfold jP;rw[e]
 by_cases h:(47:UInt8)∈l
 rotate_left
 . exact .inl ⟨by rw[sT 47 _ h,t];rfl,fun k d c=>h (by rw[i] at d;rw[<-ao0 e d c];exact List.getElem_mem d)⟩
 obtain⟨a,b,rfl,o⟩:=List.eq_append_cons_of_mem h;rw[sY 47 b a o];have hb:∀k,bt s k=((a++47::b)[k]?.getD 0).toNat:=fun k=>by unfold bt;rw[e]
 by_cases j:(47:UInt8)∈b
 rotate_left
 . refine .inr (.inl ⟨a.length,by rw[i];simp,by rw[hb];simp,fun k d u c=> ?_, ?_⟩)
   . rw[i] at d
     have f:=ao0 e d c
     rcases Nat.lt_or_ge k a.length with g | g
     . rw[List.getElem_append_left g] at f
       exact o (f▸List.getElem_mem g)
     . rw[List.getElem_append_right g,List.getElem_cons] at f
       rw[dif_neg om] at f;exact j (f▸List.getElem_mem _)
   . rw[sT 47 _ j]
     have p:s.extract 0 a.length=⟨a.toArray⟩:=by apply mq;rw[Lib.extract_data,e];simp
     have q:s.extract (a.length+1) s.size=⟨b.toArray⟩:=by apply mq;rw[Lib.extract_to_end,e];simp
     rw[p,q];rfl
 obtain⟨m,n,rfl,r⟩:=List.eq_append_cons_of_mem j;refine .inr (.inr ⟨?_,a.length,a.length+1+m.length,om,by rw[i];simp;omega,by rw[hb];simp, ?_⟩)
 . rw[sY 47 n m r]
   have:=List.length_pos_iff.2 (yS 47 n)
   simp;omega
 . rw[hb,List.getElem?_append_right om,Nat.add_assoc,Nat.add_sub_cancel_left,Nat.add_comm 1];simp
theorem dj{s:ByteArray}{w:World}(g:s.size<=16777217):
 Cl 33 #[.string s,.int .u8 47,.int .u8 47] w fun e b=>∃v a,e=.returned v/\b.ownsRow w.heap.size 9 1 v a.length (a.map Value.string)/\e5 s a/\a.length<=s.size+1/\w.S b:=
 (show Cl 33 #[.string s,.int .u8 47,.int .u8 47] w _ from @cf 47 s w om).mono fun e b ⟨v,c,d,f⟩=>⟨v,_,c,d,ana s,pm 47 s,f⟩
end Go.Proofs.YtinihjgnnlemmaaGreatDoor
