import Derived.Test.YtclgkofcooibfaaGreatDoorOwnP7
import Derived.Maps.AppendAt
import Derived.Lib.Explode
set_option maxHeartbeats 6400000
set_option maxRecDepth 100000
namespace Go.Proofs.YtclgkofcooibfaaGreatDoor
open Go.RowKit
def gQ(c:UInt8):List UInt8->List (List UInt8)
 | []=>[[]]
 | x::xs=>if x=c then []::gQ c xs else match gQ c xs with
   | p::ps=>(x::p)::ps
   | []=>[[x]]
theorem tN(c:UInt8):∀l,gQ c l≠[]
 | []=>by simp[gQ]
 | x::xs=>by
   unfold gQ
   split
   . simp
   . cases gQ c xs<;>simp
theorem rx(c:UInt8):∀l,c∉l->gQ c l=[l]
 | [],_=>rfl
 | x::xs,h=>by
   simp only[List.mem_cons,not_or] at h;rw[gQ,if_neg (fun e=>h.1 e.symm),rx c xs h.2]
theorem qt(c:UInt8)(b:List UInt8):∀a,c∉a->gQ c (a++c::b)=a::gQ c b
 | [],_=>by simp[gQ]
 | x::xs,h=>by
   simp only[List.mem_cons,not_or] at h;rw[List.cons_append,gQ,if_neg (fun e=>h.1 e.symm),qt c b xs h.2]
theorem aaz(c:UInt8):∀l,(gQ c l).length<=l.length+1
 | []=>by simp[gQ]
 | x::xs=>by
   have h:=aaz c xs;unfold gQ
   split
   . simp;omega
   . cases e:gQ c xs with
     | nil=>simp
     | cons p ps=>rw[e] at h;simp at h⊢;omega
def fN(c:UInt8)(s:ByteArray):List ByteArray:=(gQ c s.data.toList).map fun l=>⟨l.toArray⟩
theorem jT(c:UInt8)(s:ByteArray):(fN c s).length<=s.size+1:=by
 unfold fN;rw[List.length_map,Lib.size_eq];exact aaz c _
theorem back(s:ByteArray):(⟨s.data.toList.toArray⟩:ByteArray)=s:=by cases s;simp
theorem ae6{s:ByteArray}{c:UInt8}(h:∀k,k<s.size->bt s k≠c.toNat):c∉s.data.toList:=fun hm=>by
 obtain⟨k,hk,e⟩:=List.getElem_of_mem hm;refine h k (by rw[Lib.size_eq];exact hk) ?_;unfold bt;rw[List.getElem?_eq_getElem hk,Option.getD_some,e]
theorem ur{c:UInt8}{s:ByteArray}(h:∀k,k<s.size->bt s k≠c.toNat):fN c s=[s]:=by
 unfold fN;rw[rx c _ (ae6 h)]
 simp
theorem xA{c:UInt8}{s:ByteArray}{i:Nat}(hi:i<s.size)(hb:bt s i=c.toNat)(h:∀k,k<i->bt s k≠c.toNat):fN c s=s.extract 0 i::fN c (s.extract (i+1) s.size):=by
 have hl:i<s.data.toList.length:=by rw[<-Lib.size_eq];exact hi
 have e1:(s.extract 0 i).data.toList=s.data.toList.take i:=by rw[Lib.extract_data,List.drop_zero,Nat.sub_zero]
 have e2:(s.extract (i+1) s.size).data.toList=s.data.toList.drop (i+1):=by
  rw[Lib.extract_data,List.take_of_length_le];rw[List.length_drop,<-Lib.size_eq];omega
 have e3:s.data.toList[i]'hl=c:=by
  unfold bt at hb;rw[List.getElem?_eq_getElem hl,Option.getD_some] at hb;exact UInt8.toNat_inj.1 hb
 have e4:s.data.toList=s.data.toList.take i++c::s.data.toList.drop (i+1):=by
  conv=>lhs;rw[<-List.take_append_drop i s.data.toList,List.drop_eq_getElem_cons hl,e3]
 have hn:c∉s.data.toList.take i:=by
  rw[<-e1];refine ae6 (fun k hk=> ?_);rw[iQ s (Nat.zero_le _) om] at hk;rw[jn s om,Nat.zero_add];exact h k om
 have e5:(⟨(s.data.toList.take i).toArray⟩:ByteArray)=s.extract 0 i:=by rw[<-e1,back]
 unfold fN;rw[e2]
 conv=>lhs;rw[e4]
 rw[qt c _ _ hn,List.map_cons,e5]
structure tj(c:UInt8)(s:ByteArray)(i:Nat)(ps:List ByteArray)(f:Nat):Prop where
 le:f<=i
 no:∀k,f<=k->k<i->bt s k≠c.toNat
 eq:fN c s=ps++fN c (s.extract f s.size)
theorem tj.start(c:UInt8)(s:ByteArray):tj c s 0 [] 0:=⟨Nat.le_refl _,fun k _ h=>absurd h om,by rw[Lib.whole_piece];rfl⟩
theorem tj.skip{c:UInt8}{s:ByteArray}{i f:Nat}{ps:List ByteArray}(h:tj c s i ps f)(hb:bt s i≠c.toNat):tj c s (i+1) ps f:=
 ⟨by have:=h.le;omega,fun k h1 h2=>by
   by_cases e:k=i
   . subst e;exact hb
   . exact h.no k h1 om,h.eq⟩
theorem afn(s:ByteArray){f a b:Nat}(hb:f+b<=s.size):(s.extract f s.size).extract a b=s.extract (f+a) (f+b):=by
 apply iF
 rw[Lib.extract_data,Lib.extract_data,Lib.extract_data,List.drop_take,List.drop_drop,List.take_take]
 congr 1
 omega
theorem tj.hit{c:UInt8}{s:ByteArray}{i f:Nat}{ps:List ByteArray}(h:tj c s i ps f)(hi:i<s.size)(hb:bt s i=c.toNat):tj c s (i+1) (ps++[s.extract f i]) (i+1):=by
 have hle:=h.le;refine⟨Nat.le_refl _,fun k h1 h2=>absurd h1 om, ?_⟩;have hz:(s.extract f s.size).size=s.size-f:=iQ s om (Nat.le_refl _)
 have e:=xA (c:=c) (s:=s.extract f s.size) (i:=i-f) om (by rw[jn s om,show f+(i-f)=i by omega];exact hb) (fun k hk=>by
  rw[jn s om];exact h.no _ om om)
 rw[h.eq,e,hz,afn s om,afn s om,show f+(i-f)=i by omega,show f+0=f by omega,show f+(i-f+1)=i+1 by omega,show f+(s.size-f)=s.size by omega]
 simp
theorem tj.end_{c:UInt8}{s:ByteArray}{f:Nat}{ps:List ByteArray}(h:tj c s s.size ps f):ps++[s.extract f s.size]=fN c s:=by
 have hle:=h.le;rw[h.eq,ur (s:=s.extract f s.size)];intro k hk;rw[iQ s hle (Nat.le_refl _)] at hk;rw[jn s om];exact h.no _ om om
theorem acv:(Tryz.prog.info? 9).map (fun i=>(i.zero,i.size,i.bytes))=some (some (.string ByteArray.empty),1,16):=by kernel_rfl
theorem acr(c:UInt8)(s:ByteArray)(w:World)(hs:s.size<=1048577):
 Cl 67 #[.string s,.int .u8 (c.toNat:Int),.int .u8 (c.toNat:Int)] w fun e w'=>∃v,e=.returned v/\w'.ownsRow w.heap.size 9 1 v (fN c s).length ((fN c s).map Value.string)/\w.S w':=by
 obtain⟨i0,hi,hz0,hz1,hz2⟩:=info_parts acv;obtain⟨cc,hcc⟩:∃cc:Nat,c.toNat=cc:=⟨_,rfl⟩;rw[hcc];go_enter Tryz.func67,Tryz.ntmps67;go_wp2
 go_loopw [7,8,9] (fun v f t wr=>∃(i fr:Nat) (ps:List ByteArray),i<=s.size/\fr<=i/\t=.i i/\f=.i fr/\wr.ownsRow w.heap.size 9 1 v ps.length (ps.map Value.string)/\Hid (tj c s i ps fr)/\ps.length<=i/\w.S wr) (fun _ _ t _=>s.size-(intOf t).toNat)
 case atStart=>exact⟨0,0,[],Nat.zero_le _,Nat.le_refl _,rfl,rfl,pv w #[] 0 (Nat.le_refl _) qd rfl,ae (tj.start c s),Nat.le_refl _,bJ _ _⟩
 case round=>
  obtain⟨i,fr,ps,hik,hfr,rfl,rfl,hown,HC,hpl,hS⟩:=hrel;have hs1:=hS.size
  by_cases hlt:i<s.size
  . have hlt':(i:Int)<(s.size:Int):=om
    have hx:=jI hlt;have hx2:=aa5 s i
    by_cases c1:bt s i=cc
    . have HC1:=ae (HC.out.hit hlt (c1.trans hcc.symm))
      rw[c1] at hx;have hb0:(0:Int)<=fr:=om
      have hb1:(fr:Int)<=i:=om
      have HCC:=ae hcc
      go_wp2_with (at_builtin;refine wpList_append_own _ rfl _ _ 67 rfl w.heap.size 9 i0 (.string ByteArray.empty) 1 16 Tryz.underlying67 hi hz0 hz1 hz2 rfl qd _ _ _ rfl (hown.alloc _) (jh wr 0) 1 1 [.string (s.extract fr i)] rfl rfl (bO _ _ _) (bZ _ rfl) (by unfold maxLen;omega) om (by simp;omega) ?_)
      intro v' w1 hown' hgrow hnn;have hs2:=(hS.alloc hS.size _).grown hgrow (by simp;omega) (fun k hk=>(hown.lt k hk).1);rw[show ps.map Value.string++[.string (s.extract fr i)]=(ps++[s.extract fr i]).map Value.string by simp,show ps.length+1=(ps++[s.extract fr i]).length by simp] at hown';go_wp2;go_roundw
      case rel=>exact⟨i+1,i+1,_,om,om,by go_num,by go_num,hown',HC1,by simp;omega,hs2⟩
      case measure=>simp[intOf];omega
    . have HC1:=ae (HC.out.skip (fun e=>c1 (e.trans hcc)))
      have c1':¬((bt s i:Int)=cc):=om
      obtain⟨x,ex⟩:∃x,x=bt s i:=⟨_,rfl⟩;rw[<-ex] at hx hx2 c1';have hxb:((x:Int)==(cc:Int))=false:=by simpa using c1'
      have HCC:=ae hcc;go_wp2;go_roundw
      case rel=>exact⟨i+1,fr,ps,om,om,by go_num,rfl,hown,HC1,om,hS⟩
      case measure=>simp[intOf];omega
  . have e:i=s.size:=om
    subst e;have HC1:=ae HC.out.end_;have HCC:=ae hcc
    go_wp2_with (at_builtin;refine wpList_append_own _ rfl _ _ 67 rfl w.heap.size 9 i0 (.string ByteArray.empty) 1 16 Tryz.underlying67 hi hz0 hz1 hz2 rfl qd _ _ _ rfl (hown.alloc _) (jh wr 0) 1 1 [.string (s.extract fr s.size)] rfl rfl (bO _ _ _) (bZ _ rfl) (by unfold maxLen;omega) om (by simp;omega) ?_)
    intro v' w1 hown' hgrow hnn;have hs2:=(hS.alloc hS.size _).grown hgrow (by simp;omega) (fun k hk=>(hown.lt k hk).1);rw[show ps.map Value.string++[.string (s.extract fr s.size)]=(ps++[s.extract fr s.size]).map Value.string by simp,show ps.length+1=(ps++[s.extract fr s.size]).length by simp,HC1.out] at hown';go_wp2;go_ret;exact⟨_,rfl,hown',hs2⟩
theorem jG(s:ByteArray)(c:UInt8):(firstIdx s c=-1/\∀k,k<s.size->bt s k≠c.toNat)∨∃i,i<s.size/\firstIdx s c=(i:Int)/\bt s i=c.toNat/\∀k,k<i->bt s k≠c.toNat:=by
 have key:∀k,k<s.size->((s[k]! ==c)=true↔bt s k=c.toNat):=fun k hk=>by
  rw[getElem!_pos s k hk,beq_iff_eq,<-jI hk,<-UInt8.toNat_inj]
 unfold firstIdx;cases e:(List.range s.size).find? fun i=>s[i]! ==c with
 | none=>
   refine Or.inl ⟨rfl,fun k hk h=> ?_⟩;have:=List.find?_eq_none.1 e k (List.mem_range.2 hk);exact this ((key k hk).2 h)
 | some i=>
   obtain⟨h1,h2,h3⟩:=List.find?_range_eq_some.1 e;have hi:=List.mem_range.1 h2;refine Or.inr ⟨i,hi,rfl,(key i hi).1 h1,fun k hk h=> ?_⟩;have:=h3 k hk;rw[(key k om).2 h] at this;cases this
theorem af6(c:UInt8):((c.toNat:Int)).toNat.toUInt8=c:=by
 rw[Int.toNat_natCast];exact UInt8.ofNat_toNat
theorem aan(c:UInt8)(s:ByteArray)(w:World):
 Cl 196 #[.string s,.int .u8 (c.toNat:Int)] w fun e w'=>e=.returned (.i (firstIdx s c))/\w'=w:=by
 have hr:∀w,(Extern.BytealgIndexByte.indexByte #[.string s,.int .u8 (c.toNat:Int)]).run Tryz.prog w=.ok (.i (firstIdx s c)) w:=fun w=>by rw[run_indexByte_string,af6]
 obtain⟨cc,hcc⟩:∃cc:Nat,c.toNat=cc:=⟨_,rfl⟩;rw[hcc] at hr⊢;obtain⟨z,hz⟩:∃z,firstIdx s c=z:=⟨_,rfl⟩;rw[hz] at hr⊢;go_enter Tryz.func196,Tryz.ntmps196;go_wp2;rw[run_callFunc_extern Tryz.func212 kr kr kr (e:=Extern.BytealgIndexByte.indexByte) kr,hr];simp only[Result.andThen];rw[Oper.upon_value];go_wp2;go_ret;exact⟨rfl,rfl⟩
theorem ag1(c:UInt8)(s:ByteArray)(w:World)(hs:s.size<=1048577):
 Cl 183 #[.string s,.string ⟨#[c]⟩] w fun e w'=>e=.returned (.i (firstIdx s c))/\w'=w:=by
 have J:=aan c s w;obtain⟨z,hz⟩:∃z,z=firstIdx s c:=⟨_,rfl⟩;rw[<-hz] at J⊢;obtain⟨t,ht0⟩:∃t:ByteArray,t=⟨#[c]⟩:=⟨_,rfl⟩;rw[<-ht0];have hsz:t.size=1:=by rw[ht0];rfl
 have ht':(t.size:Int)=1:=om
 have h0:0<t.size:=om
 have hbc:bt t 0=c.toNat:=by rw[ht0];rfl
 have hb:=(jI h0).trans hbc
 by_cases h:t.toList=s.toList
 . have he:t=s:=iF (by rw[<-Lib.toList_data,<-Lib.toList_data,h])
   have hbe:(t.toList==t.toList)=true:=by simp
   obtain rfl:z=0:=by
    rw[hz,<-he]
    rcases jG t c with ⟨-,h2⟩ | ⟨i,h2,h3,h4,h5⟩
    . exact absurd hbc (h2 0 h0)
    . rw[h3];have:i=0:=om
      omega
   subst he;clear hz J ht0;go_enter Tryz.func183,Tryz.ntmps183;go_wp2;go_ret;exact⟨rfl,rfl⟩
 . have hbe:(t.toList==s.toList)=false:=by simpa using h
   clear hz ht0;obtain⟨cc,hcc⟩:∃cc:Nat,c.toNat=cc:=⟨_,rfl⟩;rw[hcc] at hb J;go_enter Tryz.func183,Tryz.ntmps183;go_wp2_with fail;refine J.mono ?_;rintro e w1 ⟨rfl,rfl⟩;go_wp2;go_ret;exact⟨rfl,rfl⟩
theorem ui(c:UInt8)(s:ByteArray)(w:World)(hs:s.size<=1048577):
 Cl 163 #[.string s,.string ⟨#[c]⟩] w fun e w'=>e=.returned (.i (firstIdx s c))/\w'=w:=by
 have J:=ag1 c s w hs;obtain⟨t,ht⟩:∃t:ByteArray,t=⟨#[c]⟩:=⟨_,rfl⟩;rw[<-ht] at J⊢;clear ht;go_enter Tryz.func163,Tryz.ntmps163;go_wp2_with fail;refine J.mono ?_;rintro e w1 ⟨rfl,rfl⟩;go_wp2;go_ret;exact⟨rfl,rfl⟩
theorem pn(c:UInt8):∀l:List UInt8,(gQ c l).length=l.count c+1
 | []=>by simp[gQ]
 | x::xs=>by
   have h:=pn c xs;unfold gQ
   by_cases e:x=c
   . rw[if_pos e,List.length_cons,h,e,List.count_cons_self]
   . rw[if_neg e,List.count_cons_of_ne e,<-h]
     cases e2:gQ c xs with
     | nil=>exact absurd e2 (tN c xs)
     | cons p ps=>simp
theorem uj(c:UInt8)(s:ByteArray)(n:Nat)(hn:(fN c s).length=n+1)(w:World):
 Cl 162 #[.string s,.string ⟨#[c]⟩] w fun e w'=>e=.returned (.i (n:Int))/\w'=w:=by
 have hr:∀w,(Extern.BytealgCount.count #[.string s,.int .u8 (c.toNat:Int)]).run Tryz.prog w=.ok (.i (n:Int)) w:=fun w=>by
  rw[Lib.run_countString,af6];have:=pn c s.data.toList;unfold fN at hn;rw[List.length_map] at hn;have e:Lib.countByte s.data.toList c=n:=by show List.count c _=n;omega
  rw[e]
 obtain⟨t,ht0⟩:∃t:ByteArray,t=⟨#[c]⟩:=⟨_,rfl⟩;rw[<-ht0];have hsz:t.size=1:=by rw[ht0];rfl
 have ht':(t.size:Int)=1:=om
 have h0:0<t.size:=om
 have hb:(t[0]'h0).toNat=c.toNat:=(jI h0).trans (by rw[ht0];rfl);obtain⟨cc,hcc⟩:∃cc:Nat,c.toNat=cc:=⟨_,rfl⟩;rw[hcc] at hb hr;clear ht0 hcc;go_enter Tryz.func162,Tryz.ntmps162;go_wp2;rw[run_callFunc_extern Tryz.func182 kr kr kr (e:=Extern.BytealgCount.count) kr,hr];simp only[Result.andThen];rw[Oper.upon_value];go_wp2;go_ret;exact⟨rfl,rfl⟩
def cS(s:ByteArray):List ByteArray:=(fN 32 s).filter fun p=>decide (0<p.size)
def cK:Nat->List ByteArray->List (Nat×List ByteArray)
 | _,[]=>[]
 | t,l::ls=>if cS l=[] then cK (t+1) ls else (t+1,cS l)::cK (t+1) ls
theorem zU(t:Nat)(a b:List ByteArray):cK t (a++b)=cK t a++cK (t+a.length) b:=by
 induction a generalizing t with
 | nil=>simp[cK]
 | cons x xs ih=>
   rw[List.cons_append,cK,cK,ih (t+1),List.length_cons,show t+1+xs.length=t+(xs.length+1) by omega]
   split<;>simp
theorem abh{t:Nat}{L:List ByteArray}{l:ByteArray}(h:L[t]?=some l)(hb:cS l=[]):cK t (L.drop t)=cK (t+1) (L.drop (t+1)):=by
 obtain⟨hl,e⟩:=List.getElem?_eq_some_iff.1 h;rw[List.drop_eq_getElem_cons hl,e,cK,if_pos hb]
theorem adk{t:Nat}{L:List ByteArray}{l:ByteArray}(h:L[t]?=some l)(hb:cS l≠[]):cK t (L.drop t)=(t+1,cS l)::cK (t+1) (L.drop (t+1)):=by
 obtain⟨hl,e⟩:=List.getElem?_eq_some_iff.1 h;rw[List.drop_eq_getElem_cons hl,e,cK,if_neg hb]
theorem aeN{t:Nat}{L:List ByteArray}(h:L.length<=t):cK t (L.drop t)=[]:=by
 rw[List.drop_of_length_le h];rfl
theorem afo(s:ByteArray)(i j:Nat):(s.extract i j).size<=s.size:=by
 rw[Lib.size_eq,Lib.extract_data,List.length_take,List.length_drop,<-Lib.size_eq];omega
theorem tO(c:UInt8):∀(l p:List UInt8),p∈gQ c l->p.length<=l.length
 | [],p,h=>by simp[gQ] at h;subst h;simp
 | x::xs,p,h=>by
   unfold gQ at h
   split at h
   . rcases List.mem_cons.1 h with rfl | h
     . simp
     . have:=tO c xs p h
       simp;omega
   . cases e:gQ c xs with
     | nil=>exact absurd e (tN c xs)
     | cons q qs=>
       rw[e] at h;simp only[List.mem_cons] at h
       rcases h with rfl | h
       . have:=tO c xs q (by rw[e];simp)
         simp;omega
       . have:=tO c xs p (by rw[e];simp[h])
         simp;omega
theorem qV{c:UInt8}{s p:ByteArray}(h:p∈fN c s):p.size<=s.size:=by
 unfold fN at h;obtain⟨l,hl,rfl⟩:=List.mem_map.1 h;have:=tO c _ l hl;rw[<-Lib.size_eq] at this
 show l.toArray.size<=s.size
 rw[List.size_toArray];exact this
theorem yM{s p:ByteArray}(h:p∈cS s):p.size<=s.size/\0<p.size:=by
 unfold cS at h;obtain⟨h1,h2⟩:=List.mem_filter.1 h;exact⟨qV h1,by simpa using h2⟩
theorem afX{c:UInt8}{s:ByteArray}(h:(fN c s).length=1):fN c s=[s]:=by
 rcases jG s c with ⟨-,h2⟩ | ⟨i,h2,-,h4,h5⟩
 . exact ur h2
 . rw[xA h2 h4 h5] at h
   have:=tN c (s.extract (i+1) s.size).data.toList;unfold fN at h;simp only[List.length_cons,List.length_map] at h;have:(gQ c (s.extract (i+1) s.size).data.toList).length=0:=om
   rw[List.length_eq_zero_iff] at this
   contradiction
theorem afV{c:UInt8}{s:ByteArray}(h:2<=(fN c s).length):∃i,i<s.size/\firstIdx s c=(i:Int)/\fN c s=s.extract 0 i::fN c (s.extract (i+1) s.size):=by
 rcases jG s c with ⟨-,h2⟩ | ⟨i,h2,h3,h4,h5⟩
 . rw[ur h2] at h;simp at h
 . exact⟨i,h2,h3,xA h2 h4 h5⟩
theorem xz(c:UInt8)(s:ByteArray):1<=(fN c s).length:=by
 unfold fN;rw[List.length_map,pn];omega
theorem ab5{c:UInt8}{s:ByteArray}{w:World}(hs:s.size<=1048576):
 Cl 126 #[.string s,.string ⟨#[c]⟩,.i 0,.i (-1)] w fun e w'=>e=.returned (.s w.heap.size (fN c s).length (fN c s).length)/\Hid (∀(j:Nat) (x:ByteArray),(fN c s)[j]?=some x->w'.cell? (jj w.heap.size j)=some (.string x))/\w.heap.size<w'.heap.size/\w.S w':=by
 obtain⟨n,hn⟩:∃n,(fN c s).length=n+1:=⟨(fN c s).length-1,by have:=xz c s;omega⟩;have hnl:n+1<=s.size+1:=by rw[<-hn];exact jT c s
 have JC:=uj c s n hn w;have JI:=fun r w h=>ui c r w h
 have HN:=ae hn;rw[hn];obtain⟨t,ht0⟩:∃t:ByteArray,t=⟨#[c]⟩:=⟨_,rfl⟩;rw[<-ht0] at JC⊢;have hsz:t.size=1:=by rw[ht0];rfl
 have ht':(t.size:Int)=1:=om
 have hse:t.toList.isEmpty=false:=by rw[Lib.toList_data,ht0];rfl
 have HT0:=ae ht0;have hmin:min ((n:Int)+1) ((s.size:Int)+1)=(n:Int)+1:=om
 have en1:((n+1:Nat):Int)=n+1:=om
 have hmk:=run_make_row' (P:=Tryz.prog) 67 9 (.string ByteArray.empty) 16 Tryz.underlying67 acv rfl .i64 .i64 (n+1) om om;simp only[en1] at hmk;have rA:=World.rowIs_made w (.string ByteArray.empty) (n+1) 9;have sA:=bJ w (.cells (madeCells #[.string ByteArray.empty] (n+1)) 9);clear hn ht0;go_enter Tryz.func126,Tryz.ntmps126;go_wp2_with fail;refine JC.mono ?_;rintro e w1 ⟨rfl,rfl⟩;go_wp2_with fail;have hn1:(n:Int)+1-1=(n:Int):=om
 generalize w1.alloc _=wA at*
 go_loopw [0,10] (fun u i wr=>∃(done:List ByteArray) (r:ByteArray) (f:Nat->Value),u=.string r/\i=.i (done.length:Int)/\done.length<=n/\r.size<=s.size/\Hid (fN c s=done++fN c r)/\wr.rowIs w1.heap.size 9 (n+1) f/\Hid (∀(j:Nat) (x:ByteArray),done[j]?=some x->f j=.string x)/\w1.S wr) (fun _ i _=>n-(intOf i).toNat)
 case atStart=>exact⟨[],s,_,rfl,rfl,Nat.zero_le _,Nat.le_refl _,ae rfl,rA,ae (fun j x h=>by simp at h),sA⟩
 case round=>
  obtain⟨done,r,f,rfl,rfl,hd,hr,HE,R,HF,S⟩:=hrel
  have hpl:(fN c r).length=n+1-done.length:=by
   have:=congrArg List.length HE.out;rw[HN.out,List.length_append] at this;omega
  have lr:=R.lt;obtain⟨d,hdl⟩:∃d,done.length=d:=⟨_,rfl⟩;rw[hdl] at hd hpl⊢;have HD:=ae hdl
  by_cases hlt:d<n
  . have hlt':(d:Int)<n:=om
    obtain⟨i,hi1,hi2,hi3⟩:=afV (c:=c) (s:=r) om;have HI3:=ae hi3;have JR:=JI r wr om;rw[hi2,<-HT0.out] at JR;have hz1:(r.extract (i+1) r.size).size<=s.size:=Nat.le_trans (afo r _ _) hr;have hz2:(r.extract 0 i).size<=s.size:=Nat.le_trans (afo r _ _) hr;have c0:wr.cell? (jh w1 d)=some (f d):=R.cell om;have f0:=R.frozen d;have R':=R.set d (.string (r.extract 0 i));have S':w1.S (wr.setCell (jh w1 d) (.string (r.extract 0 i))):=S.setCell (Nat.le_refl _) _;have ii:¬((i:Int)<0):=om
    have i2:(i:Int)<=(r.size:Int):=om
    have i3:(i:Int)+1<=(r.size:Int):=om
    have hdn:(d:Int)<n+1:=om
    go_wp2_with fail;refine JR.mono ?_;rintro e w2 ⟨rfl,hw2⟩;subst hw2;go_wp2;go_roundw
    case rel=>
     refine⟨done++[r.extract 0 i],r.extract (i+1) r.size,_,rfl, ?_, ?_,hz1,ae ?_,R',ae ?_,S'⟩
     . rw[List.length_append,HD.out];simp
     . rw[List.length_append,HD.out];simp;omega
     . rw[HE.out,HI3.out];simp
     . intro j x hx
       show (if j=d then Value.string (r.extract 0 i) else f j)=.string x
       by_cases e:j=d
       . subst e
         rw[List.getElem?_append_right (by rw[HD.out];exact Nat.le_refl _),HD.out,Nat.sub_self] at hx
         simp at hx
         rw[if_pos rfl,hx]
       . rw[if_neg e]
         by_cases hj:j<done.length
         . rw[List.getElem?_append_left hj] at hx
           exact HF.out j x hx
         . rw[List.getElem?_eq_none (by rw[List.length_append];have:=HD.out;simp;omega)] at hx
           cases hx
    case measure=>simp[intOf];omega
  . have e:d=n:=om
    subst e;have hone:=afX (c:=c) (s:=r) om;have c0:wr.cell? (jh w1 d)=some (f d):=R.cell om;have f0:=R.frozen d;have R':=R.set d (.string r);have S':w1.S (wr.setCell (jh w1 d) (.string r)):=S.setCell (Nat.le_refl _) _;have hdn:(d:Int)<d+1:=om
    have HO:=ae hone;have hz3:=R'.lt;go_wp2;go_ret;refine⟨rfl,ae (fun j x hx=> ?_),hz3,S'⟩;rw[HE.out,HO.out] at hx
    have hj:j<d+1:=by
     have:=(List.getElem?_eq_some_iff.1 hx).1;rw[List.length_append,HD.out] at this
     simpa using this
    rw[R'.cell hj]
    show some (if j=d then Value.string r else f j)=some (.string x)
    by_cases e:j=d
    . subst e
      rw[List.getElem?_append_right (by rw[HD.out];exact Nat.le_refl _),HD.out,Nat.sub_self] at hx
      simp at hx
      rw[if_pos rfl,hx]
    . rw[if_neg e]
      rw[List.getElem?_append_left (by rw[HD.out];omega)] at hx;rw[HF.out j x hx]
theorem acc{c:UInt8}{s:ByteArray}{w:World}(hs:s.size<=1048576):
 Cl 77 #[.string s,.string ⟨#[c]⟩] w fun e w'=>e=.returned (.s w.heap.size (fN c s).length (fN c s).length)/\Hid (∀(j:Nat) (x:ByteArray),(fN c s)[j]?=some x->w'.cell? (jj w.heap.size j)=some (.string x))/\w.heap.size<w'.heap.size/\w.S w':=by
 have J:=@ab5 c s w hs;obtain⟨t,ht⟩:∃t:ByteArray,t=⟨#[c]⟩:=⟨_,rfl⟩;rw[<-ht] at J⊢;clear ht;go_enter Tryz.func77,Tryz.ntmps77;go_wp2_with fail;refine J.mono ?_;rintro e w1 ⟨rfl,h1,h2,h3⟩;go_wp2;go_ret;exact⟨rfl,h1,h2,h3⟩
theorem Tryz.info9:(Tryz.prog.info? 9).map (fun i=>(i.zero,i.size,i.bytes))=some (some (.string ByteArray.empty),1,16):=by kernel_rfl
def adM(s:ByteArray)(i:Nat)(ps:List ByteArray)(f:Nat):Prop:=
 (ps=[]/\f=0/\∀k,k<i->bt s k≠47)∨
 (∃j,j<i/\bt s j=47/\(∀k,k<i->k≠j->bt s k≠47)/\ps=[s.extract 0 j]/\f=j+1)∨
 (2<=ps.length/\∃j j',j<j'/\j'<i/\bt s j=47/\bt s j'=47)
def aif(s:ByteArray)(qs:List ByteArray):Prop:=
 (qs=[s]/\∀k,k<s.size->bt s k≠47)∨
 (∃j,j<s.size/\bt s j=47/\(∀k,k<s.size->k≠j->bt s k≠47)/\qs=[s.extract 0 j,s.extract (j+1) s.size])∨
 (3<=qs.length/\∃j j',j<j'/\j'<s.size/\bt s j=47/\bt s j'=47)
theorem ad8{s:ByteArray}{i:Nat}{ps:List ByteArray}{f:Nat}(h:adM s i ps f)(hb:bt s i≠47):adM s (i+1) ps f:=by
 rcases h with ⟨h1,h2,h3⟩ | ⟨j,h1,h2,h3,h4,h5⟩ | ⟨h1,j,j',h2,h3,h4,h5⟩
 . refine Or.inl ⟨h1,h2,fun k hk=> ?_⟩
   by_cases e:k=i
   . subst e;exact hb
   . exact h3 k om
 . refine Or.inr (Or.inl ⟨j,om,h2,fun k hk hne=> ?_,h4,h5⟩)
   by_cases e:k=i
   . subst e;exact hb
   . exact h3 k om hne
 . exact Or.inr (Or.inr ⟨h1,j,j',h2,om,h4,h5⟩)
theorem afz{s:ByteArray}{i:Nat}{ps:List ByteArray}{f:Nat}(h:adM s i ps f)(hb:bt s i=47):adM s (i+1) (ps++[s.extract f i]) (i+1):=by
 rcases h with ⟨rfl,rfl,h3⟩ | ⟨j,h1,h2,h3,rfl,h5⟩ | ⟨h1,j,j',h2,h3,h4,h5⟩
 . exact Or.inr (Or.inl ⟨i,om,hb,fun k hk hne=>h3 k om,rfl,rfl⟩)
 . exact Or.inr (Or.inr ⟨qz,j,i,h1,om,h2,hb⟩)
 . exact Or.inr (Or.inr ⟨by simp;omega,j,j',h2,om,h4,h5⟩)
theorem af0{s:ByteArray}{ps:List ByteArray}{f:Nat}(h:adM s s.size ps f):aif s (ps++[s.extract f s.size]):=by
 rcases h with ⟨rfl,rfl,h3⟩ | ⟨j,h1,h2,h3,rfl,rfl⟩ | ⟨h1,j,j',h2,h3,h4,h5⟩
 . exact Or.inl ⟨by rw[Lib.whole_piece];rfl,h3⟩
 . exact Or.inr (Or.inl ⟨j,h1,h2,h3,rfl⟩)
 . exact Or.inr (Or.inr ⟨by simp;omega,j,j',h2,h3,h4,h5⟩)
theorem rh{s:ByteArray}{w:World}(hs:s.size<=16777217):
 Cl 67 #[.string s,.int .u8 47,.int .u8 47] w fun e w'=>∃v qs,e=.returned v/\w'.ownsRow w.heap.size 9 1 v qs.length (qs.map Value.string)/\aif s qs/\qs.length<=s.size+1/\w.S w':=by
 obtain⟨i0,hi,hz0,hz1,hz2⟩:=info_parts Tryz.info9;go_enter Tryz.func67,Tryz.ntmps67;go_wp2
 go_loopw [7,8,9] (fun v f t wr=>∃(i fr:Nat) (ps:List ByteArray),i<=s.size/\fr<=i/\t=.i i/\f=.i fr/\wr.ownsRow w.heap.size 9 1 v ps.length (ps.map Value.string)/\Hid (adM s i ps fr)/\ps.length<=i/\w.S wr) (fun _ _ t _=>s.size-(intOf t).toNat)
 case atStart=>exact⟨0,0,[],Nat.zero_le _,Nat.le_refl _,rfl,rfl,pv w #[] 0 (Nat.le_refl _) qd rfl,ae (Or.inl ⟨rfl,rfl,fun k hk=>absurd hk om⟩),Nat.le_refl _,bJ _ _⟩
 case round=>
  obtain⟨i,fr,ps,hik,hfr,rfl,rfl,hown,HC,hpl,hS⟩:=hrel;have hs1:=hS.size
  by_cases hlt:i<s.size
  . have hlt':(i:Int)<(s.size:Int):=om
    have hx:=jI hlt;have hx2:=aa5 s i
    by_cases c1:bt s i=47
    . have HC1:=ae (afz HC.out c1)
      rw[c1] at hx;have hb0:(0:Int)<=fr:=om
      have hb1:(fr:Int)<=i:=om
      go_wp2_with (at_builtin;refine wpList_append_own _ rfl _ _ 67 rfl w.heap.size 9 i0 (.string ByteArray.empty) 1 16 Tryz.underlying67 hi hz0 hz1 hz2 rfl qd _ _ _ rfl (hown.alloc _) (jh wr 0) 1 1 [.string (s.extract fr i)] rfl rfl (bO _ _ _) (bZ _ rfl) (by unfold maxLen;omega) om (by simp;omega) ?_)
      intro v' w1 hown' hgrow hnn;have hs2:=(hS.alloc hS.size _).grown hgrow (by simp;omega) (fun k hk=>(hown.lt k hk).1);rw[show ps.map Value.string++[.string (s.extract fr i)]=(ps++[s.extract fr i]).map Value.string by simp,show ps.length+1=(ps++[s.extract fr i]).length by simp] at hown';go_wp2;go_roundw
      case rel=>exact⟨i+1,i+1,_,om,om,by go_num,by go_num,hown',HC1,by simp;omega,hs2⟩
      case measure=>simp[intOf];omega
    . have HC1:=ae (ad8 HC.out c1)
      have c1':¬((bt s i:Int)=47):=om
      obtain⟨x,ex⟩:∃x,x=bt s i:=⟨_,rfl⟩;rw[<-ex] at hx hx2 c1';have hxb:((x:Int)==47)=false:=by simpa using c1'
      go_wp2;go_roundw
      case rel=>exact⟨i+1,fr,ps,om,om,by go_num,rfl,hown,HC1,om,hS⟩
      case measure=>simp[intOf];omega
  . have e:i=s.size:=om
    subst e;have HC1:=ae (af0 HC.out)
    go_wp2_with (at_builtin;refine wpList_append_own _ rfl _ _ 67 rfl w.heap.size 9 i0 (.string ByteArray.empty) 1 16 Tryz.underlying67 hi hz0 hz1 hz2 rfl qd _ _ _ rfl (hown.alloc _) (jh wr 0) 1 1 [.string (s.extract fr s.size)] rfl rfl (bO _ _ _) (bZ _ rfl) (by unfold maxLen;omega) om (by simp;omega) ?_)
    intro v' w1 hown' hgrow hnn;have hs2:=(hS.alloc hS.size _).grown hgrow (by simp;omega) (fun k hk=>(hown.lt k hk).1);rw[show ps.map Value.string++[.string (s.extract fr s.size)]=(ps++[s.extract fr s.size]).map Value.string by simp,show ps.length+1=(ps++[s.extract fr s.size]).length by simp] at hown';go_wp2;go_ret;exact⟨_,_,rfl,hown',HC1.out,by simp;omega,hs2⟩
end Go.Proofs.YtclgkofcooibfaaGreatDoor
