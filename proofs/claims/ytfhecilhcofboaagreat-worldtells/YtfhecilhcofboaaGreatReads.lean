/- The small readers of clocks: has an author, the longer length, an entry or 0 behind the end, the greater and the lesser of two numbers. -/
import Derived.Test.YtfhecilhcofboaaGreatBase
namespace Go.Proofs.YtfhecilhcofboaaGreat
open Go.RowKit

theorem Ye(v:Value)(xs:List Int)(i:Int)(w:World)(h:Row w v xs)(h0:0≤i)(h1:i<xs.length):
  Calls Tryz.prog 61 #[v,.int .i64 i] w fun e w'=>e=.returned (.bool true)∧w'=w:=by
 have hx:=h.len_le;obtain⟨a,cap,rfl,hl,hm,hc⟩:=h;clear hl hm hc
 go_enter Tryz.func61,Tryz.ntmps61
 go_wp2
 go_ret
 exact⟨rfl,rfl⟩
theorem Vv(v:Value)(xs:List Int)(i:Int)(w:World)(h:Row w v xs)(h1:i<0∨(xs.length:Int)≤i):
  Calls Tryz.prog 61 #[v,.int .i64 i] w fun e w'=>e=.returned (.bool false)∧w'=w:=by
 have hx:=h.len_le;obtain⟨a,cap,rfl,hl,hm,hc⟩:=h;clear hl hm hc
 rcases(show i<0∨(0≤i∧(xs.length:Int)≤i) by omega)with h2|⟨h2,h3⟩ <;> clear h1
 ·go_enter Tryz.func61,Tryz.ntmps61
  go_wp2
  go_ret
  exact⟨rfl,rfl⟩
 have hd:decide (i<(xs.length:Int))=false:=by simp;omega
 go_enter Tryz.func61,Tryz.ntmps61
 go_wp2
 go_ret
 exact⟨rfl,rfl⟩

def Vq(xs ys:List Int):Nat:=if ys.length≤xs.length then xs.length else ys.length
theorem lenM_le{xs ys:List Int}:xs.length≤Vq xs ys∧ys.length≤Vq xs ys:=by unfold Vq;split <;> omega
theorem lenM_bd{xs ys:List Int}{n:Nat}(h:xs.length≤n)(h':ys.length≤n):Vq xs ys≤n:=by unfold Vq;split <;> omega

theorem xT(v u:Value)(xs ys:List Int)(w:World)(h:Row w v xs)(hu:Row w u ys):
  Calls Tryz.prog 87 #[v,u] w fun e w'=>e=.returned (.int .i64 (Vq xs ys))∧w'=w:=by
 have hx:=h.len_le;have hy:=hu.len_le;obtain⟨a,cap,rfl,hl,hm,hc⟩:=h;obtain⟨a',cap',rfl,hl',hm',hc'⟩:=hu;clear hl hm hc hl' hm' hc'
 by_cases hle:ys.length≤xs.length
 ·have H:Hid (Vq xs ys=xs.length):=by simp[Vq,hle,Hid]
  by_cases hlt:ys.length<xs.length
  ·have h1:(ys.length:Int)<(xs.length:Int):=by omega
   have h2:((xs.length:Int))≠(ys.length:Int):=by omega
   go_enter Tryz.func87,Tryz.ntmps87
   go_wp2
   go_ret
   exact⟨Xq (by have:=H.out;omega),rfl⟩
  have h1:¬(ys.length:Int)<(xs.length:Int):=by omega
  have h2:¬(xs.length:Int)<(ys.length:Int):=by omega
  go_enter Tryz.func87,Tryz.ntmps87
  go_wp2
  go_ret
  exact⟨Xq (by have:=H.out;omega),rfl⟩
 have H:Hid (Vq xs ys=ys.length):=by simp[Vq,hle,Hid]
 have h1:¬(ys.length:Int)<(xs.length:Int):=by omega
 have h2:(xs.length:Int)<(ys.length:Int):=by omega
 go_enter Tryz.func87,Tryz.ntmps87
 go_wp2
 go_ret
 exact⟨Xq (by have:=H.out;omega),rfl⟩
theorem long_ref(v u:Value)(xs ys:List Int)(w:World)(h:Row w v xs)(hu:Row w u ys):
  Calls Tryz.prog 78 #[v,u] w fun e w'=>e=.returned (.int .i64 (Vq xs ys))∧w'=w:=by
 have hx:=h.len_le;have hy:=hu.len_le;obtain⟨a,cap,rfl,hl,hm,hc⟩:=h;obtain⟨a',cap',rfl,hl',hm',hc'⟩:=hu;clear hl hm hc hl' hm' hc'
 by_cases hle:ys.length≤xs.length
 ·have H:Hid (Vq xs ys=xs.length):=by simp[Vq,hle,Hid]
  by_cases hlt:ys.length<xs.length
  ·have h1:(ys.length:Int)<(xs.length:Int):=by omega
   have h2:((xs.length:Int))≠(ys.length:Int):=by omega
   go_enter Tryz.func78,Tryz.ntmps78
   go_wp2
   go_ret
   exact⟨Xq (by have:=H.out;omega),rfl⟩
  have h1:¬(ys.length:Int)<(xs.length:Int):=by omega
  have h2:¬(xs.length:Int)<(ys.length:Int):=by omega
  go_enter Tryz.func78,Tryz.ntmps78
  go_wp2
  go_ret
  exact⟨Xq (by have:=H.out;omega),rfl⟩
 have H:Hid (Vq xs ys=ys.length):=by simp[Vq,hle,Hid]
 have h1:¬(ys.length:Int)<(xs.length:Int):=by omega
 have h2:(xs.length:Int)<(ys.length:Int):=by omega
 go_enter Tryz.func78,Tryz.ntmps78
 go_wp2
 go_ret
 exact⟨Xq (by have:=H.out;omega),rfl⟩

def Vb(x y:Int):Int:=if x<y then y else x
def On(x y:Int):Int:=if y<x then y else x

theorem fn_join(x y:Int)(w:World):Calls Tryz.prog 94 #[.int .i64 x,.int .i64 y] w fun e w'=>e=.returned (.int .i64 (Vb x y))∧w'=w:=by
 rcases(show x<y∨x=y∨y<x by omega)with h|rfl|h
 all_goals
  go_enter Tryz.func94,Tryz.ntmps94
  go_wp2
  all_goals (go_ret;exact⟨Xq (by unfold Vb;split <;> omega),rfl⟩)
theorem fn_meet(x y:Int)(w:World):Calls Tryz.prog 96 #[.int .i64 x,.int .i64 y] w fun e w'=>e=.returned (.int .i64 (On x y))∧w'=w:=by
 rcases(show x<y∨x=y∨y<x by omega)with h|rfl|h
 all_goals
  go_enter Tryz.func96,Tryz.ntmps96
  go_wp2
  all_goals (go_ret;exact⟨Xq (by unfold On;split <;> omega),rfl⟩)

theorem xD(p:Addr)(v:Value)(xs:List Int)(k:Nat)(w:World)(hp:p.spot=none)(hv:w.cell? p=some v)(h:Row w v xs):
  Calls Tryz.prog 114 #[.int .i64 k,.pointer (some p)] w fun e w'=>e=.returned (.int .i64 (xs.getD k 0))∧w'=w:=by
 obtain⟨pb,po,ps⟩:=p;obtain rfl:ps=none:=hp
 by_cases hk:k<xs.length
 ·have hh:=Ye v xs k w h (by omega) (by omega);obtain⟨a,cap,rfl,hl,hm,hc⟩:=h;obtain⟨b,off,rfl,hcell⟩:=hc k hk;clear hc hl hm;obtain⟨y,HY⟩:∃y,Hid (xs.getD k 0=y):=⟨_,rfl⟩;rw[HY.out]at hcell;rw[HY.out];have HH:=Za hh;clear hh
  go_enter Tryz.func114,Tryz.ntmps114
  go_wp2_with (go_at_call 61;refine HH.mono ?_;rintro e w' ⟨rfl,rfl⟩)
  go_ret
  exact⟨rfl,rfl⟩
 have hh:=Vv v xs k w h (by omega);have e0:xs.getD k 0=0:=by simp[List.getD,List.getElem?_eq_none (Nat.le_of_not_lt hk)]
 rw[e0];have HH:=Za hh;clear hh h e0
 go_enter Tryz.func114,Tryz.ntmps114
 go_wp2_with (go_at_call 61;refine HH.mono ?_;rintro e w' ⟨rfl,rfl⟩)
 go_ret
 exact⟨rfl,rfl⟩

theorem at_ref(v:Value)(xs:List Int)(k:Nat)(w:World)(h:Row w v xs):
  Calls Tryz.prog 79 #[v,.int .i64 k] w fun e w'=>e=.returned (.int .i64 (xs.getD k 0))∧w'=w:=by
 have hx:=h.len_le;obtain⟨a,cap,rfl,hl,hm,hc⟩:=h
 by_cases hk:k<xs.length
 ·obtain⟨b,off,rfl,hcell⟩:=hc k hk;clear hc hl hm;obtain⟨y,HY⟩:∃y,Hid (xs.getD k 0=y):=⟨_,rfl⟩;rw[HY.out]at hcell;rw[HY.out];have hk':(k:Int)<(xs.length:Int):=by omega
  go_enter Tryz.func79,Tryz.ntmps79
  go_wp2
  go_ret
  exact⟨rfl,rfl⟩
 have e0:xs.getD k 0=0:=by simp[List.getD,List.getElem?_eq_none (Nat.le_of_not_lt hk)]
 rw[e0];have hk':¬(k:Int)<(xs.length:Int):=by omega
 clear hc hl hm e0
 go_enter Tryz.func79,Tryz.ntmps79
 go_wp2
 go_ret
 exact⟨rfl,rfl⟩
end Go.Proofs.YtfhecilhcofboaaGreat
/- The document's own Same answers whether two clocks are one list of numbers. -/
namespace Go.Proofs.YtfhecilhcofboaaGreat
open Go.RowKit

theorem take_same{xs ys:List Int}{k:Nat}(hx:k<xs.length)(hy:k<ys.length)(h:xs.take k=ys.take k)(he:xs.getD k 0=ys.getD k 0):xs.take (k+1)=ys.take (k+1):=by
 rw[List.take_succ_eq_append_getElem hx,List.take_succ_eq_append_getElem hy,h];rw[Ui hx,Ui hy]at he;rw[he]
theorem same_all{xs ys:List Int}{k:Nat}(hx:¬k<xs.length)(hl:xs.length=ys.length)(h:xs.take k=ys.take k):true=decide (xs=ys):=by
 rw[List.take_of_length_le (by omega),List.take_of_length_le (by omega)]at h
 simp[h]
theorem same_len{xs ys:List Int}(hl:¬xs.length=ys.length):false=decide (xs=ys):=by
 symm;rw[decide_eq_false_iff_not];intro h;rw[h]at hl;exact hl rfl
theorem same_one{xs ys:List Int}{k:Nat}(h:¬xs.getD k 0=ys.getD k 0):false=decide (xs=ys):=by
 symm;rw[decide_eq_false_iff_not];intro e;rw[e]at h;exact h rfl
theorem Yp{B:Nat}{a w:World}(h:Below B a w)(n:Nat):Below B a (w.drewN n):=h.trans ⟨rfl,rfl,rfl,nlr _,fun _ _=>rfl⟩

set_option maxRecDepth 100000 in
set_option maxHeartbeats 400000 in
theorem same_ref(v u:Value)(xs ys:List Int)(w:World)(h:Row w v xs)(hu:Row w u ys):
  Calls Tryz.prog 25 #[v,u] w fun e w'=>e=.returned (.bool (decide (xs=ys)))∧Below w.heap.size w w':=by
 have hx:=h.len_le;have hy:=hu.len_le;obtain⟨a,cap,rfl,hl,hm,hc⟩:=h;obtain⟨a',cap',rfl,hl',hm',hc'⟩:=hu;clear hl hm hl' hm'
 by_cases hlen:xs.length=ys.length
 ·have hne:((xs.length:Int) != (ys.length:Int))=false:=by simp;omega
  have HL:=Za hlen;clear hlen
  go_enter Tryz.func25,Tryz.ntmps25
  go_wp2
  go_loopw [13] (fun i wr=>∃k:Nat,k≤xs.length∧i=.int .i64 k∧Hid (xs.take k=ys.take k)∧Below w.heap.size w wr) (fun i _=>xs.length - (intOf i).toNat)
  case atStart=>exact⟨0,Nat.zero_le _,rfl,Za (by simp),Below.refl _ _⟩
  obtain⟨k,hk,rfl,hall,hb⟩:=hrel;have hky:k≤ys.length:=by rw[←HL.out];exact hk
  by_cases hlt:k<xs.length
  ·have hlty:k<ys.length:=by rw[←HL.out];exact hlt
   obtain⟨b,off,rfl,hcell⟩:=hc k hlt;obtain⟨b',off',rfl,hcell'⟩:=hc' k hlty;clear hc hc';obtain⟨y,HY⟩:∃y,Hid (xs.getD k 0=y):=⟨_,rfl⟩;obtain⟨z,HZ⟩:∃y,Hid (ys.getD k 0=y):=⟨_,rfl⟩;rw[HY.out]at hcell;rw[HZ.out]at hcell';have c1:=(hb.cell (World.block_lt_of_cell? w _ hcell)).trans hcell;have c2:=(hb.cell (World.block_lt_of_cell? w _ hcell')).trans hcell';have hlt':(k:Int)<(xs.length:Int):=by omega
   have hlty':(k:Int)<(ys.length:Int):=by omega
   clear hcell hcell'
   by_cases he:y=z
   ·have hq:(y != z)=false:=by simp[he]
    have HE:=Za he;clear he
    go_wp2
    go_quiet (fail)
    go_wp2
    go_roundw
    case rel=>exact⟨k+1,by omega,by go_num,Za (take_same hlt hlty hall.out (by rw[HY.out,HZ.out,HE.out])),Yp hb _⟩
    case measure=>simp[intOf];omega
   have hq:(y != z)=true:=by simp[he]
   have HE:=Za he;clear he
   go_wp2
   go_quiet (fail)
   go_wp2
   go_ret
   exact⟨Jl (same_one (by rw[HY.out,HZ.out];exact HE.out)),Yp hb _⟩
  go_wp2
  go_ret
  exact⟨Jl (same_all hlt HL.out hall.out),hb⟩
 have hne:((xs.length:Int) != (ys.length:Int))=true:=by simp;omega
 have HL:=Za hlen;clear hlen
 go_enter Tryz.func25,Tryz.ntmps25
 go_wp2
 go_ret
 exact⟨Jl (same_len HL.out),Below.refl _ _⟩
end Go.Proofs.YtfhecilhcofboaaGreat
/- clock.Sees and the document's own Sees answer whether one clock is nowhere less than another one. -/
namespace Go.Proofs.YtfhecilhcofboaaGreat
open Go.RowKit

theorem Qc{xs:List Int}{k:Nat}(h:xs.length≤k):xs.getD k 0=0:=by simp[List.getD,List.getElem?_eq_none h]

def Ju(xs ys:List Int):Bool:=(List.range (Vq xs ys)).all fun i=>decide (ys.getD i 0≤xs.getD i 0)
theorem Qa{xs ys:List Int}:Ju xs ys=true↔∀i,ys.getD i 0≤xs.getD i 0:=by
 unfold Ju;rw[List.all_eq_true]
 constructor
 ·intro h i
  by_cases hi:i<Vq xs ys
  ·simpa using h i (by simp[hi])
  have:=@lenM_le xs ys;rw[Qc (xs:=xs) (by omega),Qc (xs:=ys) (by omega)];exact Int.le_refl _
 intro h i _
 simpa using h i
theorem sees_all{xs ys:List Int}{k:Nat}(hk:¬k<Vq xs ys)(h:∀j,j<k→ys.getD j 0≤xs.getD j 0):true=Ju xs ys:=by
 symm;unfold Ju;rw[List.all_eq_true]
 intro i hi
 simp at hi
 simpa using h i (by omega)
theorem sees_one{xs ys:List Int}{k:Nat}(h:xs.getD k 0<ys.getD k 0):false=Ju xs ys:=by
 symm;rw[Bool.eq_false_iff];intro e
 have:=Qa.1 e k;omega

theorem Oc(a:Option Addr)(n c:Nat)(w:World):
  Calls Tryz.prog 86 #[.slice a n c] w fun e w'=>e=.returned (.func (Fn.func 114) #[] #[.pointer (some ⟨w.heap.size,0,none⟩)])∧w'=w.alloc (.cells #[.slice a n c] 23):=by
 go_enter Tryz.func86,Tryz.ntmps86
 go_wp2
 go_ret
 exact⟨rfl,rfl⟩

theorem vB(w:World)(o o':Obj):Below w.heap.size w ((w.alloc o).alloc o'):=((Below.refl _ _).alloc (nlr _) _).alloc (by simp) _

set_option maxRecDepth 100000 in
set_option maxHeartbeats 400000 in
theorem Jz(v u:Value)(xs ys:List Int)(w:World)(h:Row w v xs)(hu:Row w u ys):
  Calls Tryz.prog 43 #[v,u] w fun e w'=>e=.returned (.bool (Ju xs ys))∧Below w.heap.size w w':=by
 have hbd:Vq xs ys≤9223372036854775807:=lenM_bd h.len_le hu.len_le;obtain⟨W,HW⟩:∃W,Hid (W=(w.alloc (.cells #[v] 23)).alloc (.cells #[u] 23)):=⟨_,rfl⟩;have hb:Below w.heap.size w W:=by rw[HW.out];exact vB _ _ _
 have r1:=h.below hb (nlr _);have r2:=hu.below hb (nlr _);have c1:W.cell? ⟨w.heap.size,0,none⟩=some v:=by rw[HW.out];simp[World.cell?_alloc_past]
 have c2:W.cell? ⟨w.heap.size+1,0,none⟩=some u:=by rw[HW.out];simp
 have HL:=Za (xT v u xs ys W r1 r2);have H1:=Za (fun k=>xD ⟨w.heap.size,0,none⟩ v xs k W rfl c1 r1);have H2:=Za (fun k=>xD ⟨w.heap.size+1,0,none⟩ u ys k W rfl c2 r2);clear r1 r2 c1 c2;obtain⟨a,cap,rfl,-,-,-⟩:=h;obtain⟨a',cap',rfl,-,-,-⟩:=hu
 go_enter Tryz.func43,Tryz.ntmps43
 go_wp2_with fail
 refine(Oc _ _ _ _).mono ?_;rintro e w' ⟨rfl,rfl⟩
 go_wp2_with fail
 refine(Oc _ _ _ _).mono ?_;rintro e w' ⟨rfl,hw'⟩;rw[show w'=W from hw'.trans HW.symm];clear hw' w' HW
 go_wp2_with fail
 refine HL.mono ?_;rintro e w' ⟨rfl,rfl⟩
 go_wp2_with fail
 go_loop [15] (fun i=>∃k:Nat,k≤Vq xs ys∧i=.int .i64 k∧Hid (∀j,j<k→ys.getD j 0≤xs.getD j 0)) (fun i=>Vq xs ys - (intOf i).toNat)
 case atStart=>exact⟨0,Nat.zero_le _,rfl,Za (fun j hj=>by omega)⟩
 obtain⟨k,hk,rfl,hall⟩:=hrel
 by_cases hlt:k<Vq xs ys
 ·have hlt':(k:Int)<(Vq xs ys:Int):=by omega
  have G1:=Za (H1.out k);have G2:=Za (H2.out k);obtain⟨y,HY⟩:∃y,Hid (xs.getD k 0=y):=⟨_,rfl⟩;obtain⟨z,HZ⟩:∃y,Hid (ys.getD k 0=y):=⟨_,rfl⟩;rw[HY.out]at G1;rw[HZ.out]at G2
  by_cases hz:y<z
  ·go_wp2_with fail
   refine G1.mono ?_;rintro e w' ⟨rfl,rfl⟩
   go_wp2_with fail
   refine G2.mono ?_;rintro e w' ⟨rfl,rfl⟩
   go_wp2_with fail
   go_ret
   exact⟨Jl (sees_one (k:=k) (by rw[HY.out,HZ.out];exact hz)),hb⟩
  go_wp2_with fail
  refine G1.mono ?_;rintro e w' ⟨rfl,rfl⟩
  go_wp2_with fail
  refine G2.mono ?_;rintro e w' ⟨rfl,rfl⟩
  go_wp2_with fail
  go_round
  case rel=>exact⟨k+1,by omega,by go_num,Za (fun j hj=>by
   by_cases e:j=k
   ·subst e;rw[HY.out,HZ.out];omega
   exact hall.out j (by omega))⟩
  case measure=>simp[intOf];omega
 have hlt':¬(k:Int)<(Vq xs ys:Int):=by omega
 go_wp2
 go_ret
 exact⟨Jl (sees_all hlt hall.out),hb⟩
end Go.Proofs.YtfhecilhcofboaaGreat
/- clock.Has answers whether a clock has an author's update, and clock.Tick answers a new clock with one more for that author. -/
namespace Go.Proofs.YtfhecilhcofboaaGreat
open Go.RowKit

def Vy(xs:List Int)(i s:Int):Bool:=decide (0≤i∧i<xs.length∧s≤xs.getD i.toNat 0)

set_option maxRecDepth 100000 in
set_option maxHeartbeats 400000 in
theorem xB(v:Value)(xs:List Int)(i s:Int)(w:World)(h:Row w v xs):
  Calls Tryz.prog 106 #[v,.int .i64 i,.int .i64 s] w fun e w'=>e=.returned (.bool (Vy xs i s))∧w'=w:=by
 by_cases hi:0≤i∧i<xs.length
 ·obtain⟨h0,h1⟩:=hi;obtain⟨k,rfl⟩:=Int.eq_ofNat_of_zero_le h0;have hk:k<xs.length:=by omega
  have HH:=Za (Ye v xs k w h h0 h1);have hx:=h.len_le;obtain⟨a,cap,rfl,hl,hm,hc⟩:=h;obtain⟨b,off,rfl,hcell⟩:=hc k hk;clear hc hl hm;obtain⟨y,HY⟩:∃y,Hid (xs.getD k 0=y):=⟨_,rfl⟩;rw[HY.out]at hcell
  have HR:Hid (decide (s≤y)=Vy xs k s):=by
   unfold Hid Vy;rw[Int.toNat_natCast,HY.out];simp[hk]
  go_enter Tryz.func106,Tryz.ntmps106
  go_wp2_with (go_at_call 61;refine HH.mono ?_;rintro e w' ⟨rfl,rfl⟩)
  go_ret
  exact⟨Jl HR.out,rfl⟩
 have HH:=Za (Vv v xs i w h (by omega))
 have HR:Hid (false=Vy xs i s):=by
  unfold Hid Vy;symm;rw[decide_eq_false_iff_not];intro g;exact hi ⟨g.1,g.2.1⟩
 clear hi;obtain⟨a,cap,rfl,-,-,-⟩:=h
 go_enter Tryz.func106,Tryz.ntmps106
 go_wp2_with (go_at_call 61;refine HH.mono ?_;rintro e w' ⟨rfl,rfl⟩)
 go_ret
 exact⟨Jl HR.out,rfl⟩

def Ja(xs:List Int)(i:Int):List Int:=if 0≤i∧i<xs.length then xs.set i.toNat (wrap64 (xs.getD i.toNat 0+1))else xs
theorem Jg(xs:List Int)(i:Int):(Ja xs i).length=xs.length:=by unfold Ja;split <;> simp

theorem splice_whole{α:Type}(L cs:List α)(h:L.length=cs.length):splice L 0 cs=cs:=by
 simp[splice,h]

set_option maxRecDepth 100000 in
set_option maxHeartbeats 800000 in
theorem yO(v:Value)(xs:List Int)(w:World)(h:Row w v xs)(hr:xs.length*8≤140737488351232):
  Calls Tryz.prog 42 #[v] w fun e w'=>e=.returned (.slice (some ⟨w.heap.size,0,none⟩) xs.length xs.length)∧Own w' w.heap.size (.slice (some ⟨w.heap.size,0,none⟩) xs.length xs.length) xs∧Below w.heap.size w w':=by
 obtain⟨i0,hi,hz0,hz1,hz2⟩:=info_parts Tryz.infoInt;have HROW:=Za h;obtain⟨a,cap,rfl,-,-,-⟩:=h
 go_enter Tryz.func42,Tryz.ntmps42
 go_wp2_with (at_make;refine wpList_make_full _ rfl _ _ 23 rfl w.heap.size 3 i0 (.int .i64 0) 1 Tryz.underlying23 hi hz0 hz1 _ _ _ _ xs.length rfl rfl rfl rfl ?b2 ?b3 ?b4 ?_)
 case b2=>rw[hz2];omega
 case b3=>unfold maxLen;omega
 case b4=>exact nlr _
 intro w1 hown hgrow;have hb1:Below w.heap.size w w1:=(Below.refl _ _).grown hgrow (nlr _) (fun k hk=>by cases hk);obtain⟨L,HBLK,HLEN⟩:∃L:List Value,Hid (w1.heap[w.heap.size]? =some (.cells L.toArray 3 (0,0)))∧Hid (L.length=xs.length):=⟨_,(own_block hown).1,(own_block hown).2.2⟩;obtain⟨CS,HCS⟩:∃CS,Hid (CS=xs.map (Value.int .i64)):=⟨_,rfl⟩;clear hown hgrow;have hcl:Hid (CS.length=xs.length):=by rw[HCS.out];simp[Hid]
 have hR:=(HROW.below hb1 (nlr _)).cells;have HP:=Za hR.2.2.2;have HONE:Hid (∀v ∈ CS,v.oneCell'=true):=by rw[HCS.out];exact ints_oneCell _ _
 rw[←HCS.out]at HP;clear hR
 go_wp2_with (refine wpList_copy_splice rfl (.tmp 7) (.tmp 8) 23 23 rfl 3 Tryz.underlying23 Tryz.sizeInt _ _ _ _ _ _ rfl rfl w.heap.size 0 L 3 HBLK.out CS ?d1 ?d2 ?d3 HONE.out w.heap.size w hb1 (nlr _) ?_)
 case d1=>rw[hcl.out];simp
 case d2=>intro hp;rw[hcl.out]at hp;exact HP.out hp
 case d3=>rw[hcl.out,HLEN.out];omega
 intro w2 HB2 hb2;rw[splice_whole _ _ (HLEN.trans hcl.out.symm),HCS.out]at HB2;have HOWN:=Za (own_of_block (B:=w.heap.size) HB2.out (nlr _) (by unfold maxLen;omega));clear HB2 HBLK HLEN hcl HP HONE HCS hb1
 go_wp2
 go_ret
 exact⟨rfl,HOWN.out,hb2⟩

theorem Od(v:Value)(xs:List Int)(w:World)(h:Row w v xs)(hr:xs.length*8≤140737488351232):
  Calls Tryz.prog 42 #[v] w fun e w'=>∃r,e=.returned r∧Own w' w.heap.size r xs∧Below w.heap.size w w':=by
 refine(yO v xs w h hr).mono ?_;rintro e w' ⟨rfl,h1,h2⟩;exact⟨_,rfl,h1,h2⟩

set_option maxRecDepth 100000 in
set_option maxHeartbeats 800000 in
theorem tick_clock(v:Value)(xs:List Int)(i:Int)(w:World)(h:Row w v xs)(hr:xs.length*8≤140737488351232):
  Calls Tryz.prog 72 #[v,.int .i64 i] w fun e w'=>∃r,e=.returned r∧Own w' w.heap.size r (Ja xs i)∧Below w.heap.size w w':=by
 have HROW:=Za h;obtain⟨a,cap,rfl,-,-,-⟩:=h
 go_enter Tryz.func72,Tryz.ntmps72
 go_wp2_with fail
 refine(yO _ xs w HROW.out hr).mono ?_;rintro e w2 ⟨rfl,hown,hb2⟩;have HOWN:=Za hown;clear hown;have HR2:=HROW.below hb2 (nlr _)
 by_cases hin:0≤i∧i<xs.length
 ·obtain⟨h0,h1⟩:=hin;obtain⟨k,rfl⟩:=Int.eq_ofNat_of_zero_le h0;have hk:k<xs.length:=by omega
  have HH:=Za (Ye _ xs k w2 HR2 h0 h1);clear HR2;obtain⟨y,HY⟩:∃y,Hid (xs.getD k 0=y):=⟨_,rfl⟩
  have c1:w2.cell? ⟨w.heap.size,k,none⟩=some (.int .i64 y):=by
   rw[HOWN.cellAt k (by omega)];simp[hk,←HY.out]
  have c2:w2.frozen? ⟨w.heap.size,k,none⟩=false:=HOWN.frozenAt k;have HT:Hid (Ja xs k=xs.set k (wrap64 (y+1))):=by unfold Hid Ja;rw[if_pos ⟨h0,h1⟩,Int.toNat_natCast,HY.out]
  go_wp2_with (go_at_call 61;refine HH.mono ?_;rintro e w' ⟨rfl,rfl⟩)
  go_ret
  refine⟨_,rfl,?_,hb2.setCell (nlr _) _⟩;have:=HOWN.stored k (.int .i64 (wrap64 (y+1)));unfold Own;rw[HT.out,List.length_set,List.map_set];exact this.1
 have HH:=Za (Vv _ xs i w2 HR2 (by omega));have HT:Hid (Ja xs i=xs):=by unfold Hid Ja;rw[if_neg hin]
 clear HR2 hin
 go_wp2_with (go_at_call 61;refine HH.mono ?_;rintro e w' ⟨rfl,rfl⟩)
 go_ret
 refine⟨_,rfl,?_,hb2⟩;rw[HT.out];exact HOWN.out
end Go.Proofs.YtfhecilhcofboaaGreat
/- clock.Wrong and the document's own Wrong answer what is wrong with a clock, for every clock and every number of authors, and touch nothing. -/
namespace Go.Proofs.YtfhecilhcofboaaGreat
open Go.RowKit

def xC(k:Int):Bool:=decide (0≤k∧k≤1000)
def Zn(xs:List Int)(n:Int):Int:=
 if n<1∨6<n∨¬(xs.length:Int)=n then 5 else if xs.all xC then 0 else 3

theorem wrongC_bad{xs:List Int}{n:Int}(h:n<1∨6<n∨¬(xs.length:Int)=n):5=Zn xs n:=by simp[Zn,h]
theorem wrongC_all{xs:List Int}{n:Int}(h:¬(n<1∨6<n∨¬(xs.length:Int)=n)){k:Nat}(hk:k=xs.length)(ha:(xs.take k).all xC=true):0=Zn xs n:=by
 subst hk;rw[List.take_length]at ha;rw[Zn,if_neg h,if_pos ha]
theorem xI{xs:List Int}{n:Int}(h:¬(n<1∨6<n∨¬(xs.length:Int)=n)){k:Nat}(hk:k<xs.length)(ha:xC (xs.getD k 0)=false):3=Zn xs n:=by
 rw[Zn,if_neg h,if_neg];intro hall;rw[List.all_eq_true]at hall;have:=hall (xs.getD k 0) (by rw[Ui hk];exact List.getElem_mem hk);rw[ha]at this;cases this
theorem all_succ{xs:List Int}{k:Nat}{p:Int→Bool}(hk:k<xs.length)(ha:(xs.take k).all p=true)(hp:p (xs.getD k 0)=true):(xs.take (k+1)).all p=true:=by
 rw[List.take_succ_eq_append_getElem hk,List.all_append,ha];rw[Ui hk]at hp
 simp[hp]

set_option maxRecDepth 100000 in
set_option maxHeartbeats 400000 in
theorem Yk(v:Value)(xs:List Int)(n:Int)(w:World)(h:Row w v xs):
  Calls Tryz.prog 47 #[v,.int .i64 n] w fun e w'=>e=.returned (.int .i64 (Zn xs n))∧w'=w:=by
 have hx:=h.len_le;obtain⟨a,cap,rfl,hl,hm,hc⟩:=h;clear hl hm
 by_cases hbad:n<1∨6<n∨¬(xs.length:Int)=n
 ·have H:Hid (5=Zn xs n):=wrongC_bad hbad;clear hc
  rcases(show n<1∨(1≤n∧6<n)∨(1≤n∧n≤6∧¬(xs.length:Int)=n) by omega)with h1|⟨h1,h2⟩|⟨h1,h2,h3⟩
  ·clear hbad
   go_enter Tryz.func47,Tryz.ntmps47
   go_wp2
   go_ret
   exact⟨Xq H.out,rfl⟩
  ·clear hbad
   go_enter Tryz.func47,Tryz.ntmps47
   go_wp2
   go_ret
   exact⟨Xq H.out,rfl⟩
  have h4:((xs.length:Int) != n)=true:=by simp[h3]
  clear hbad
  go_enter Tryz.func47,Tryz.ntmps47
  go_wp2
  go_ret
  exact⟨Xq H.out,rfl⟩
 have h4:((xs.length:Int) != n)=false:=by simp;omega
 have hn1:1≤n:=by omega
 have hn6:n≤6:=by omega
 have HB:=Za hbad;clear hbad
 go_enter Tryz.func47,Tryz.ntmps47
 go_wp2
 go_loop [21] (fun i=>∃k:Nat,k≤xs.length∧i=.int .i64 k∧(xs.take k).all xC=true) (fun i=>xs.length - (intOf i).toNat)
 case atStart=>exact⟨0,Nat.zero_le _,rfl,by simp⟩
 obtain⟨k,hk,rfl,hall⟩:=hrel;have HA:=Za hall;clear hall
 by_cases hlt:k<xs.length
 ·obtain⟨b,off,rfl,hcell⟩:=hc k hlt;clear hc;obtain⟨y,HY⟩:∃y,Hid (xs.getD k 0=y):=⟨_,rfl⟩;rw[HY.out]at hcell
  rcases(show y<0∨(0≤y∧1000<y)∨(0≤y∧y≤1000) by omega)with h1|⟨h1,h2⟩|⟨h1,h2⟩
  ·go_wp2
   go_ret
   exact⟨Xq (xI HB.out hlt (by rw[HY.out];simp[xC];omega)),rfl⟩
  ·go_wp2
   go_ret
   exact⟨Xq (xI HB.out hlt (by rw[HY.out];simp[xC];omega)),rfl⟩
  go_wp2
  go_round
  case rel=>exact⟨k+1,by omega,by go_num,all_succ hlt HA.out (by rw[HY.out];simp[xC];omega)⟩
  case measure=>simp[intOf];omega
 go_wp2
 go_ret
 exact⟨Xq (wrongC_all HB.out (by omega) HA.out),rfl⟩
set_option maxRecDepth 100000 in
set_option maxHeartbeats 400000 in
theorem Xy(v:Value)(xs:List Int)(n:Int)(w:World)(h:Row w v xs):
  Calls Tryz.prog 34 #[v,.int .i64 n] w fun e w'=>e=.returned (.int .i64 (Zn xs n))∧w'=w:=by
 have hx:=h.len_le;obtain⟨a,cap,rfl,hl,hm,hc⟩:=h;clear hl hm
 by_cases hbad:n<1∨6<n∨¬(xs.length:Int)=n
 ·have H:Hid (5=Zn xs n):=wrongC_bad hbad;clear hc
  rcases(show n<1∨(1≤n∧6<n)∨(1≤n∧n≤6∧¬(xs.length:Int)=n) by omega)with h1|⟨h1,h2⟩|⟨h1,h2,h3⟩
  ·clear hbad
   go_enter Tryz.func34,Tryz.ntmps34
   go_wp2
   go_ret
   exact⟨Xq H.out,rfl⟩
  ·clear hbad
   go_enter Tryz.func34,Tryz.ntmps34
   go_wp2
   go_ret
   exact⟨Xq H.out,rfl⟩
  have h4:((xs.length:Int) != n)=true:=by simp[h3]
  clear hbad
  go_enter Tryz.func34,Tryz.ntmps34
  go_wp2
  go_ret
  exact⟨Xq H.out,rfl⟩
 have h4:((xs.length:Int) != n)=false:=by simp;omega
 have hn1:1≤n:=by omega
 have hn6:n≤6:=by omega
 have HB:=Za hbad;clear hbad
 go_enter Tryz.func34,Tryz.ntmps34
 go_wp2
 go_loop [21] (fun i=>∃k:Nat,k≤xs.length∧i=.int .i64 k∧(xs.take k).all xC=true) (fun i=>xs.length - (intOf i).toNat)
 case atStart=>exact⟨0,Nat.zero_le _,rfl,by simp⟩
 obtain⟨k,hk,rfl,hall⟩:=hrel;have HA:=Za hall;clear hall
 by_cases hlt:k<xs.length
 ·obtain⟨b,off,rfl,hcell⟩:=hc k hlt;clear hc;obtain⟨y,HY⟩:∃y,Hid (xs.getD k 0=y):=⟨_,rfl⟩;rw[HY.out]at hcell
  rcases(show y<0∨(0≤y∧1000<y)∨(0≤y∧y≤1000) by omega)with h1|⟨h1,h2⟩|⟨h1,h2⟩
  ·go_wp2
   go_ret
   exact⟨Xq (xI HB.out hlt (by rw[HY.out];simp[xC];omega)),rfl⟩
  ·go_wp2
   go_ret
   exact⟨Xq (xI HB.out hlt (by rw[HY.out];simp[xC];omega)),rfl⟩
  go_wp2
  go_round
  case rel=>exact⟨k+1,by omega,by go_num,all_succ hlt HA.out (by rw[HY.out];simp[xC];omega)⟩
  case measure=>simp[intOf];omega
 go_wp2
 go_ret
 exact⟨Xq (wrongC_all HB.out (by omega) HA.out),rfl⟩
end Go.Proofs.YtfhecilhcofboaaGreat
