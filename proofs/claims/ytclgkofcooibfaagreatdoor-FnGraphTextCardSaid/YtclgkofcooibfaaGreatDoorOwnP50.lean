import Derived.Test.YtclgkofcooibfaaGreatDoorOwnP8
import Derived.Test.YtclgkofcooibfaaGreatDoorOwnP28
set_option maxHeartbeats 6400000
set_option maxRecDepth 100000
namespace Go.Proofs.YtclgkofcooibfaaGreatDoor
open Go.Shelf Go.RowKit Go.Sort Go.Lib
def Pow(w:World):Prop:=Lib.TabIs Tryz.prog w "internal/strconv.uint64pow10" .u64 Lib.pow10Tab
theorem Pow.stay{w w':World}(h:Pow w)(s:w.S w'):Pow w':=tabBelow_of_tabIs h w' ⟨s.os,s.tape,s.output,s.size,s.block⟩
theorem fh{B:Nat}{w w':World}(h:Below B w w'):w.Since B w':=⟨h.os,h.tape,h.output,h.size,h.block⟩
theorem sY{u:Nat}(hu64:u<18446744073709551616){w:World}(htab:Pow w):
 Cl 157 #[.int .u64 u,.i 10] w fun e w'=>e=.returned (.string ⟨(Lib.decDigits u).toArray⟩)/\w.S w':=by
 by_cases hs:u<100
 . go_enter Tryz.func157,Tryz.ntmps157
   go_wp2_with fail;refine (Tryz.internal_strconv_small u hs _).mono ?_;rintro e w' ⟨rfl,rfl⟩;go_wp2;go_ret;exact⟨rfl,eg _ _⟩
 . have hu1:1<=u:=om
   have hnd20:Lib.nDigits u<=20:=by have:=Lib.numDigits_eq u hu1 hu64;split at this<;>omega
   have hal:(Tryz.prog).arrayLen 187=24:=by simp[Program.arrayLen,Tryz.underlying187]
   have hsl:∀W,(Instr.sliceAt 187 (.p w.heap.size 0) none (some (.i (Lib.nDigits u:Int))) none).run Tryz.prog W=.ok (.s w.heap.size (Lib.nDigits u) 24) W:=fun W=>by
    rw[run_sliceAt_array_h W 187 (jj w.heap.size 0) (by simp[Program.arrayLen,Program.elem,Tryz.underlying187]) .i64 (Lib.nDigits u:Int) om (by rw[hal];omega)];go_simp
   have hH0:=Lib.holds_zero0 w 187 (Lib.nDigits u) om;have hfmt:=Tryz.internal_strconv_formatBase10 w.heap.size 0 24 u (Array.replicate (Lib.nDigits u) 0) (w.alloc (.cells Lib.zeros24 187)) hH0 (by rw[Array.size_replicate];exact Lib.lt_pow_nDigits u) hu64 (by rw[Array.size_replicate];omega);rw[Array.size_replicate] at hfmt;have HH0:=Lib.hid hH0;have iu:(100:Int)<=u:=om
   go_enter Tryz.func157,Tryz.ntmps157;go_wp2_with fail;refine (Tryz.internal_strconv_numDigits u hu1 hu64 _ (Lib.tabIs_alloc htab _)).mono ?_;rintro e w' ⟨rfl,rfl⟩;go_wp2_with fail;refine hfmt.mono ?_;rintro e w' ⟨rfl,k,v',dk,rfl,hF⟩
   have hcv:(convert 22 9 (.s w.heap.size (Lib.nDigits u) 24)).run Tryz.prog ((putRow (fun (b:UInt8)=>Value.int .u8 (b.toNat:Int)) (w.alloc (.cells Lib.zeros24 187)) w.heap.size 0 dk).drewN k)=.ok (.string ⟨(Lib.decDigits u).toArray⟩) ((putRow (fun (b:UInt8)=>Value.int .u8 (b.toNat:Int)) (w.alloc (.cells Lib.zeros24 187)) w.heap.size 0 dk).drewN k):=by
    have h:=run_convert_bytes_back (P:=Tryz.prog) ((putRow (fun (b:UInt8)=>Value.int .u8 (b.toNat:Int)) (w.alloc (.cells Lib.zeros24 187)) w.heap.size 0 dk).drewN k) 22 9 5 (jj w.heap.size 0) 24 (Lib.decDigits u) Tryz.underlying22 Tryz.underlying5 Tryz.underlying9 (fun j hj=>by
     rw[Lib.row_is_numeral hF j hj,Lib.add_plain,World.cell?_drewN];exact cell?_putRow (fun (b:UInt8)=>Value.int .u8 (b.toNat:Int)) _ w.heap.size 0 _ dk HH0.out (by rw[hF.size,Array.size_replicate]) j (by rw[hF.size];rw[Lib.decDigits_length] at hj;exact hj))
    rw[Lib.decDigits_length] at h;exact h
   obtain⟨os,eo⟩:=Lib.fin_at w (.cells Lib.zeros24 187) dk k 0;have hS:w.S ((putRow (fun (b:UInt8)=>Value.int .u8 (b.toNat:Int)) (w.alloc (.cells Lib.zeros24 187)) w.heap.size 0 dk).drewN k):=by rw[eo];exact fh (Lib.below_grow w.heap.size w (Nat.le_refl _) k os)
   generalize (putRow (fun (b:UInt8)=>Value.int .u8 (b.toNat:Int)) (w.alloc (.cells Lib.zeros24 187)) w.heap.size 0 dk).drewN k=W2 at hcv hS⊢;go_wp2;go_ret;exact⟨rfl,hS⟩
theorem uT{u:Nat}(hu64:u<18446744073709551616){w:World}(htab:Pow w):
 Cl 119 #[.int .u64 u,.i 10] w fun e w'=>e=.returned (.string ⟨(Lib.decDigits u).toArray⟩)/\w.S w':=by
 go_enter Tryz.func119,Tryz.ntmps119;go_wp2_with fail;refine (sY hu64 htab).mono ?_;rintro e w' ⟨rfl,s⟩;go_wp2;go_ret;exact⟨rfl,s⟩
theorem vj{B n u:Nat}(hu64:u<18446744073709551616){sv:Value}{l:List UInt8}{w:World}(hown:w.ownsRow B 5 1 sv n (Lib.byteCells l))(hBw:B<=w.heap.size)(hlim:n+20<=140737488355328)(htab:Pow w):
 Cl 118 #[sv,.int .u64 u,.i 10] w fun e w'=>∃v',e=.returned v'/\w'.ownsRow B 5 1 v' (n+(Lib.decDigits u).length) (Lib.byteCells (l++Lib.decDigits u))/\w.Since B w'/\Lib.OthersKept 5 none w w':=by
 have J:Cl 156 #[sv,.int .u64 u,.i 10] w fun e w'=>∃v',e=.returned v'/\w'.ownsRow B 5 1 v' (n+(Lib.decDigits u).length) (Lib.byteCells l++Lib.byteCells (Lib.decDigits u))/\Below B w w'/\Lib.OthersKept 5 none w w':=by
  by_cases h:u<100
  . exact Tryz.internal_strconv_AppendUint_10_small B n u h sv _ w hown hBw hlim
  . exact Tryz.internal_strconv_AppendUint_10_big B n u om hu64 sv _ w hown hBw hlim htab
 obtain⟨a,cap,rfl⟩:∃a cap,sv=.slice a n cap:=by
  rcases hown.2 with ⟨rfl,rfl⟩ | ⟨g,cap,cur,rfl,-⟩
  . exact⟨none,0,rfl⟩
  . exact⟨_,cap,rfl⟩
 go_enter Tryz.func118,Tryz.ntmps118;go_wp2_with fail;refine J.mono ?_;rintro e w' ⟨v',rfl,ho,hb,hk⟩;go_wp2;go_ret;exact⟨v',rfl,by rw[show Lib.byteCells (l++Lib.decDigits u)=Lib.byteCells l++Lib.byteCells (Lib.decDigits u) from List.map_append];exact ho,fh hb,hk⟩
def qv(N m:Nat):Nat:=N/1000000000^m
theorem xv(N:Nat):qv N 0=N:=by simp[qv]
theorem tH(N m:Nat):qv N (m+1)=qv N m/1000000000:=by rw[qv,qv,Nat.pow_succ,Nat.div_div_eq_div_mul]
theorem aen(N m:Nat):qv N m=qv N (m+1)*1000000000+qv N m % 1000000000:=by rw[tH];omega
theorem aiy(N m:Nat):qv N m<=N:=Nat.div_le_self _ _
theorem afR{N k m:Nat}(hN:N<2^k)(h:0<qv N m):m<k+1:=by
 have h1:1000000000^m<=N:=by
  rcases Nat.lt_or_ge N (1000000000^m) with h2 | h2
  . rw[qv,Nat.div_eq_of_lt h2] at h;omega
  . exact h2
 have h3:2^m<=1000000000^m:=Nat.pow_le_pow_left om m;have h4:2^m<2^k:=om
 have:=(Nat.pow_lt_pow_iff_right (a:=2) om).1 h4;omega
def ChI(N m:Nat)(C:Nat->Nat):Prop:=(∀j,j<m->C j=qv N j % 1000000000)/\(m=0∨0<qv N (m-1))
theorem af5{N m x:Nat}{C:Nat->Nat}(h:ChI N m C)(hp:0<qv N m)(hx:x=qv N m % 1000000000):ChI N (m+1) (fX C m x):=by
 refine⟨fun j hj=> ?_,Or.inr (by simpa using hp)⟩
 by_cases e:j=m
 . subst e;rw[bK];exact hx
 . rw[az _ _ _ _ e];exact h.1 j om
theorem aiH{N m:Nat}(h:0<qv N (m+1)):Lib.decDigits (qv N m)=Lib.decDigits (qv N (m+1))++(List.replicate (9-Lib.nDigits (qv N m % 1000000000)) 48++Lib.decDigits (qv N m % 1000000000)):=by
 conv=>lhs;rw[aen N m]
 exact afw h (Nat.mod_lt _ om)
theorem aix{N k m:Nat}(h:0<qv N m)(hk:k<=m):0<qv N k:=by
 induction m with
 | zero=>rw[show k=0 by omega];exact h
 | succ m ih=>
   by_cases e:k=m+1
   . rw[e];exact h
   . refine ih ?_ om
     rw[tH] at h
     rcases Nat.eq_zero_or_pos (qv N m) with h0 | h0
     . rw[h0] at h;simp at h
     . exact h0
structure ti(a:Option Addr)(c b t cap:Nat)(w wr:World)(k:Nat)(Q:Nat->Nat):Prop where
 cell:wr.cell? ⟨c,0,none⟩=some (.slice a k cap)
 fz:wr.frozen? ⟨c,0,none⟩=false
 limbs:ag wr a b 0 k Q
 fb:∀o,wr.frozen? ⟨b,o,none⟩=false
 os:wr.os=w.os
 tape:wr.tape=w.tape
 output:wr.output=w.output
 size:w.heap.size<=wr.heap.size
 block:∀j,j<w.heap.size->j≠c->j≠b->wr.heap[j]?=w.heap[j]?
 lc:c<w.heap.size
 lb:b<w.heap.size
 ne:c≠b
section
variable{a:Option Addr}{c b t cap k k':Nat}{w wr w1 w2:World}{Q Q2:Nat->Nat}
theorem ti.since(h:ti a c b t cap w wr k Q)(s:wr.S w1):ti a c b t cap w w1 k Q:=
 ⟨(s.cell (a:=jj c 0) (Nat.lt_of_lt_of_le h.lc h.size)).trans h.cell,(s.frozen (a:=jj c 0) (Nat.lt_of_lt_of_le h.lc h.size)).trans h.fz,h.limbs.aA s,fun o=>(s.frozen (a:=jj b o) (Nat.lt_of_lt_of_le h.lb h.size)).trans (h.fb o),
   s.os.trans h.os,s.tape.trans h.tape,s.output.trans h.output,Nat.le_trans h.size s.size,fun j h1 h2 h3=>(s.block j (Nat.lt_of_lt_of_le h1 h.size)).trans (h.block j h1 h2 h3),h.lc,h.lb,h.ne⟩
theorem ti.grown{row:Option Nat}(h:ti a c b t cap w wr k Q)(g:wr.grownBy w1 row)(hr:∀k,row=some k->w.heap.size<=k):ti a c b t cap w w1 k Q:=by
 have hc:some c≠row:=fun e=>by have:=hr c e.symm;have:=h.lc;omega
 have hb:some b≠row:=fun e=>by have:=hr b e.symm;have:=h.lb;omega
 have ec:=g.block c (Nat.lt_of_lt_of_le h.lc h.size) hc;have eb:=g.block b (Nat.lt_of_lt_of_le h.lb h.size) hb
 exact⟨(fa (w:=wr) (a:=jj c 0) ec).trans h.cell,(wW (w:=wr) (a:=jj c 0) ec).trans h.fz,fun j hj=>⟨(h.limbs j hj).1,(fa (w:=wr) (a:=jj b (0+j)) eb).trans (h.limbs j hj).2⟩,
  fun o=>(wW (w:=wr) (a:=jj b o) eb).trans (h.fb o),g.os.trans h.os,g.tape.trans h.tape,g.output.trans h.output,Nat.le_trans h.size g.size,
  fun j h1 h2 h3=>(g.block j (Nat.lt_of_lt_of_le h1 h.size) (fun e=>by have:=hr j e.symm;omega)).trans (h.block j h1 h2 h3),h.lc,h.lb,h.ne⟩
theorem ti.divide(h:ti a c b t cap w wr k Q)(M:af wr w2 b)(L2:ag w2 a b 0 k Q2)(hk:k'<=k):ti a c b t cap w (w2.setCell ⟨c,0,none⟩ (.slice a k' cap)) k' Q2:=by
 have M2:=(af.refl w2 c).setCell 0 (.slice a k' cap);have e0:=(M.cell (a:=jj c 0) h.ne).trans h.cell;refine⟨j6 _ _ _ e0, ?_, ?_,fun o=> ?_,M2.os.trans (M.os.trans h.os),M2.tape.trans (M.tape.trans h.tape),M2.output.trans (M.output.trans h.output),by rw[M2.size,M.size];exact h.size,fun j h1 h2 h3=>(M2.other j h2).trans ((M.other j h3).trans (h.block j h1 h2 h3)),h.lc,h.lb,h.ne⟩
 . rw[M2.frozen 0,M.aQ (a:=jj c 0) h.ne];exact h.fz
 . exact (L2.marked M2 (fun _=>Ne.symm h.ne)).take hk
 . rw[M2.aQ (a:=jj b o) (Ne.symm h.ne),M.frozen o];exact h.fb o
end
structure Kp(base c b:Nat)(w w':World):Prop where
 os:w'.os=w.os
 tape:w'.tape=w.tape
 output:w'.output=w.output
 size:w.heap.size<=w'.heap.size
 low:∀k,k<base->w'.heap[k]?=w.heap[k]?
 aA:∀k o,w.heap[k]?=some o->k≠c->k≠b->(∀x fz,o≠ .cells x 5 fz)->w'.heap[k]?=some o
theorem Kp.of{a:Option Addr}{base c b t cap k:Nat}{w wr:World}{Q:Nat->Nat}(h:ti a c b t cap w wr k Q)(hb:base<=w.heap.size)(h1:base<=c)(h2:base<=b):Kp base c b w wr:=
 ⟨h.os,h.tape,h.output,h.size,fun k hk=>h.block k om om om,fun k _ hk e1 e2 _=>(h.block k (Array.getElem?_eq_some_iff.1 hk).1 e1 e2).trans hk⟩
theorem Kp.on{base c b:Nat}{w w1 w2:World}(h:Kp base c b w w1)(s:w1.Since base w2)(k:Lib.OthersKept 5 none w1 w2):Kp base c b w w2:=
 ⟨s.os.trans h.os,s.tape.trans h.tape,s.output.trans h.output,Nat.le_trans h.size s.size,fun i hi=>(s.block i hi).trans (h.low i hi),fun i o hi e1 e2 e3=>k i o (h.aA i o hi e1 e2 e3) qz e3⟩
theorem Kp.refl(base c b:Nat)(w:World):Kp base c b w w:=⟨rfl,rfl,rfl,Nat.le_refl _,fun _ _=>rfl,fun _ _ h _ _ _=>h⟩
theorem Kp.since{base c b:Nat}{w w':World}(h:Kp base c b w w'):w.Since base w':=⟨h.os,h.tape,h.output,h.size,h.low⟩
theorem lk{e:TypeId}{w w':World}(s:w.S w'):Lib.OthersKept e none w w':=fun k _ hk _ _=>(s.block k (Array.getElem?_eq_some_iff.1 hk).1).trans hk
def vm(base:Nat)(w:World):Prop:=Lib.TabBelow Tryz.prog base w "internal/strconv.uint64pow10" .u64 Lib.pow10Tab
theorem vm.on{base:Nat}{w w':World}(h:vm base w)(s:w.Since base w'):vm base w':=Lib.TabBelow.on h ⟨s.os,s.tape,s.output,s.size,s.block⟩
theorem vm.here{base:Nat}{w:World}(h:vm base w):Pow w:=Lib.TabBelow.here h
end Go.Proofs.YtclgkofcooibfaaGreatDoor
