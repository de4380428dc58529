import Derived.Test.YtaeieekkddndhaaGreatOwnP3
import Derived.Shelf.SlIterI.Sorted
import Derived.Shelf.SortM.Plain
import Derived.Shelf.SortM.SortNone
set_option maxHeartbeats 6400000
set_option maxRecDepth 100000
namespace Go.Proofs.YtaeieekkddndhaaGreat
open Tryz
open Go.RowKit Go.Maps Go.Sort Go.Shelf
theorem dN{f:FuncId}{B F:Func}(h:Tryz.prog.funcs[f]?=some F)(hn:(F.name== "runtime.NumGoroutine")=false)(e:F={ B with name:=F.name }):Bears Tryz.prog f B:=⟨F.name,hn,h.trans (congrArg some e)⟩
def al3:Ren:=⟨fun x=>match x with | 7=>173 | 10=>189 | n=>n,fun x=>match x with | 23=>209 | 26=>3 | 3=>83 | 28=>214 | 0=>0 | 27=>213 | 33=>110 | 4=>4 | n=>n,fun x=>x⟩
theorem anv:SlLaysZI.n7 Tryz.prog al3:=by
 constructor
 all_goals first
  | kernel_rfl
  | (intros;kernel_rfl)
  | exact dN func173 kr kr
  | exact func173
  | exact dN func189 kr kr
  | exact func189
def afC:Ren:=⟨fun x=>match x with | 6=>172 | 8=>187 | 9=>188 | 11=>198 | 13=>200 | 12=>199 | 23=>217 | 24=>218 | 14=>208 | 15=>209 | 16=>210 | 17=>211 | 18=>212 | 19=>213 | 20=>214 | 21=>215 | 22=>216 | 25=>225 | 26=>226 | 27=>227 | 28=>228 | 29=>229 | 30=>184 | 31=>230 | n=>n,fun x=>match x with | 26=>3 | 28=>214 | 24=>44 | 0=>0 | 3=>3 | 37=>207 | 48=>135 | 50=>174 | 4=>4 | 40=>245 | 39=>244 | 45=>250 | 5=>5 | 9=>9 | 51=>258 | 55=>261 | 57=>263 | 58=>105 | 33=>110 | n=>n,fun x=>x⟩
theorem amn:SlLaysZI.n6 Tryz.prog afC:=by
 constructor
 all_goals first
  | kernel_rfl
  | (intros;kernel_rfl)
  | exact dN func172 kr kr
  | exact func172
  | exact dN func187 kr kr
  | exact func187
  | exact dN func188 kr kr
  | exact func188
  | exact dN func198 kr kr
  | exact func198
  | exact dN func200 kr kr
  | exact func200
  | exact dN func199 kr kr
  | exact func199
  | exact dN func217 kr kr
  | exact func217
  | exact dN func218 kr kr
  | exact func218
  | exact dN func208 kr kr
  | exact func208
  | exact dN func209 kr kr
  | exact func209
  | exact dN func210 kr kr
  | exact func210
  | exact dN func211 kr kr
  | exact func211
  | exact dN func212 kr kr
  | exact func212
  | exact dN func213 kr kr
  | exact func213
  | exact dN func214 kr kr
  | exact func214
  | exact dN func215 kr kr
  | exact func215
  | exact dN func216 kr kr
  | exact func216
  | exact dN func225 kr kr
  | exact func225
  | exact dN func226 kr kr
  | exact func226
  | exact dN func227 kr kr
  | exact func227
  | exact dN func228 kr kr
  | exact func228
  | exact dN func229 kr kr
  | exact func229
  | exact dN func184 kr kr
  | exact func184
  | exact dN func230 kr kr
  | exact func230
def an5:Ren:=⟨fun x=>match x with | 5=>188 | 8=>200 | 7=>199 | 19=>217 | 20=>218 | 10=>208 | 11=>209 | 12=>210 | 13=>211 | 14=>212 | 15=>213 | 16=>214 | 17=>215 | 18=>216 | 30=>225 | 31=>226 | 32=>227 | 33=>228 | 34=>229 | 35=>184 | 40=>230 | n=>n,fun x=>match x with | 23=>44 | 25=>3 | 3=>3 | 32=>207 | 22=>44 | 0=>0 | 44=>135 | 46=>174 | 4=>4 | 36=>245 | 35=>244 | 41=>250 | 5=>5 | 9=>9 | 53=>258 | 57=>261 | 63=>263 | 64=>105 | n=>n,fun x=>x⟩
theorem anr:SlLaysM.n5 Tryz.prog an5:=by
 constructor
 all_goals first
  | kernel_rfl
  | (intros;kernel_rfl)
  | exact dN func188 kr kr
  | exact func188
  | exact dN func200 kr kr
  | exact func200
  | exact dN func199 kr kr
  | exact func199
  | exact dN func217 kr kr
  | exact func217
  | exact dN func218 kr kr
  | exact func218
  | exact dN func208 kr kr
  | exact func208
  | exact dN func209 kr kr
  | exact func209
  | exact dN func210 kr kr
  | exact func210
  | exact dN func211 kr kr
  | exact func211
  | exact dN func212 kr kr
  | exact func212
  | exact dN func213 kr kr
  | exact func213
  | exact dN func214 kr kr
  | exact func214
  | exact dN func215 kr kr
  | exact func215
  | exact dN func216 kr kr
  | exact func216
  | exact dN func225 kr kr
  | exact func225
  | exact dN func226 kr kr
  | exact func226
  | exact dN func227 kr kr
  | exact func227
  | exact dN func228 kr kr
  | exact func228
  | exact dN func229 kr kr
  | exact func229
  | exact dN func184 kr kr
  | exact func184
  | exact dN func230 kr kr
  | exact func230
theorem an4(m:Nat):AnyZI.SortsIn Tryz.prog afC Fence.wide m:=
 ⟨fun blk off cap ss W hH hblk hsz=>callsIn_wide.2 (AnyM.slices_Sort_int anr blk off cap ss W hH hblk hsz),
  fun p cap W=>callsIn_wide.2 (AnyM.slices_Sort_int_none anr p cap W)⟩
theorem anQ(mb:Option Nat)(W:World):Calls Tryz.prog 173 #[.map mb] W fun e w'=>e=.returned (.func (.func 189) #[] #[.pointer (some ⟨W.heap.size,0,none⟩)])/\w'=W.alloc (.cells #[.map mb] 209):=
 (callsIn_wide (n:=5)).1 (AnyZI.keys_in anv Fence.wide 5 trivial rfl mb W)
theorem akJ{H:Type}(b nn:Nat)(D0:DataW H)(R:Value->Option (DataW H×List MemPlace))(w:World)(hown:w.ownsMap Tryz.prog 3 R b nn D0)(hmax:Maps.size D0<=maxLen)(hbytes:Maps.size D0*8<=140737488355328):
 Calls Tryz.prog 172 #[.func (.func 189) #[] #[.pointer (some ⟨w.heap.size,0,none⟩)]] (w.alloc (.cells #[.map (some b)] 209)) fun e w'=>∃(v:Value) (ss:List Int),e=.returned v/\ss.Perm (intKeys D0)/\
  w'.ownsRow (w.alloc (.cells #[.map (some b)] 209)).heap.size 3 1 v ss.length ((ss.mergeSort (fun x y=>decide (x<=y))).map encZ)/\(v=.slice none 0 0↔ss=[])/\Below (w.alloc (.cells #[.map (some b)] 209)).heap.size (w.alloc (.cells #[.map (some b)] 209)) w':=by
 refine (callsIn_wide (n:=5)).1 ?_;have hbl:=hown.lt
 have hseq:SeqGives Fence.wide 2 Tryz.prog 189 #[.pointer (some ⟨w.heap.size,0,none⟩)] encZ (fun ss=>ss.Perm (intKeys D0)) (Maps.size D0) (w.alloc (.cells #[.map (some b)] 209)):=
  AnyZI.keys_gives (ρ:=al3) { anv with } Fence.wide _ trivial rfl om w.heap.size b nn D0 _ qz qz (by
   obtain⟨es,clock,hb,Ft,hs,hD⟩:=hown;exact⟨es,clock,(Below.heap_alloc _ _ b hbl).trans hb,Ft,hs,hD⟩)
 exact AnyZI.sorted_in amn Fence.wide 5 trivial trivial trivial trivial rfl om (an4 _) (enters_of func188 kr rfl) 189 #[.pointer (some ⟨w.heap.size,0,none⟩)] trivial (enters_of func189 kr rfl) _ _ hmax hbytes _ hseq
end Go.Proofs.YtaeieekkddndhaaGreat
