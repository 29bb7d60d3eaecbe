/- The document's own Ends, and what stays. -/
import Derived.Test.YtfhecilhcofboaaGreatRfB
import Derived.Test.YtfhecilhcofboaaGreatRfC
namespace Go.Proofs.YtfhecilhcofboaaGreat
open Go.RowKit

theorem vA{w w':World}{p:Addr}{v:Value}(hg:Zh w w')(h:w.cell? p=some v):w'.cell? p=some v:=(hg.cell (p:=p) (World.block_lt_of_cell? w _ h)).trans h
theorem rowAtP{w:World}{a:Option Addr}{m c:Nat}{xs:List Int}(h:Row w (.slice a m c) xs){i:Nat}(hi:i<xs.length):∃b off,a=some ⟨b,off,none⟩∧w.cell? ⟨b,off+i,none⟩=some (.int .i64 (xs.getD i 0)):=by
 obtain⟨a',c',h1,-,-,h4⟩:=h;simp only[Value.slice.injEq]at h1;obtain⟨rfl,-,-⟩:=h1;exact h4 i hi
def setsB(u:Upd):Bool:=decide (u.kind=3)||decide (u.kind=4)
set_option maxRecDepth 100000 in
set_option maxHeartbeats 1000000 in
theorem sets_ref(ua uk uy ui:Int)(us:List Int)(a5:Option Addr)(cap5:Nat)(w:World):
  Calls Tryz.prog 113 #[.agg #[.int .i64 ua,.slice a5 us.length cap5,.int .i64 uk,.int .i64 uy,.int .i64 ui]] w fun e w'=>e=.returned (.bool (setsB ⟨ua,us,uk,uy,ui⟩))∧Below w.heap.size w w':=by
 obtain⟨b,HB⟩:∃b,Hid (setsB ⟨ua,us,uk,uy,ui⟩=b):=⟨_,rfl⟩;rw[HB.out];have HBW:=Za (bpl w (.cells #[.int .i64 ua,.slice a5 us.length cap5,.int .i64 uk,.int .i64 uy,.int .i64 ui] 33))
 by_cases h3:uk=3
 ·obtain rfl:true=b:=by rw[←HB.out];unfold setsB;simp[h3]
  have h3':(uk==3)=true:=by simp[h3]
  clear h3
  go_enter Tryz.func113,Tryz.ntmps113
  go_wp2_with fail
  go_ret
  exact⟨rfl,HBW.out⟩
 have h3':(uk==3)=false:=by simp[h3]
 by_cases h4:uk=4
 ·obtain rfl:true=b:=by rw[←HB.out];unfold setsB;simp[h4]
  have h4':(uk==4)=true:=by simp[h4]
  clear h3 h4
  go_enter Tryz.func113,Tryz.ntmps113
  go_wp2_with fail
  go_ret
  exact⟨rfl,HBW.out⟩
 obtain rfl:false=b:=by rw[←HB.out];unfold setsB;simp[h3,h4]
 have h4':(uk==4)=false:=by simp[h4]
 clear h3 h4
 go_enter Tryz.func113,Tryz.ntmps113
 go_wp2_with fail
 go_ret
 exact⟨rfl,HBW.out⟩

set_option maxRecDepth 100000 in
set_option maxHeartbeats 4000000 in
theorem ends_ref(ua uk uy ui:Int)(us:List Int)(a5:Option Addr)(cap5:Nat)(xs:Bool)(xk xi xq:Int)(xu:Nat)(w:World)(hs:Row w (.slice a5 us.length cap5) us)(hk:1≤uk∧uk≤5):
  Calls Tryz.prog 84 #[.agg #[.int .i64 ua,.slice a5 us.length cap5,.int .i64 uk,.int .i64 uy,.int .i64 ui],.agg #[.bool xs,.int .i64 xk,.int .i64 xi,.int .i64 (xu:Int),.int .i64 xq]] w fun e w'=>e=.returned (.bool (Yy ⟨ua,us,uk,uy,ui⟩ ⟨xs,xk,xi,xu,xq⟩))∧Below w.heap.size w w':=by
 obtain⟨b,HB⟩:∃b,Hid (Yy ⟨ua,us,uk,uy,ui⟩ ⟨xs,xk,xi,xu,xq⟩=b):=⟨_,rfl⟩;rw[HB.out];have hbl:=Below.plus (bpl w (.cells #[.int .i64 ua,.slice a5 us.length cap5,.int .i64 uk,.int .i64 uy,.int .i64 ui] 33)) (.cells #[.bool xs,.int .i64 xk,.int .i64 xi,.int .i64 (xu:Int),.int .i64 xq] 106);have U1:=Za ((Box.new w [.int .i64 ua,.slice a5 us.length cap5,.int .i64 uk,.int .i64 uy,.int .i64 ui] 33).plus (.cells #[.bool xs,.int .i64 xk,.int .i64 xi,.int .i64 (xu:Int),.int .i64 xq] 106));have X1:=Box.new (w.alloc (.cells #[.int .i64 ua,.slice a5 us.length cap5,.int .i64 uk,.int .i64 uy,.int .i64 ui] 33)) [.bool xs,.int .i64 xk,.int .i64 xi,.int .i64 (xu:Int),.int .i64 xq] 106;rw[World.size_alloc]at X1;have S1:=Za (hs.below hbl (nlr _));have HB1:=Za hbl;obtain⟨w1,HW1⟩:∃W,Hid ((w.alloc (.cells #[.int .i64 ua,.slice a5 us.length cap5,.int .i64 uk,.int .i64 uy,.int .i64 ui] 33)).alloc (.cells #[.bool xs,.int .i64 xk,.int .i64 xi,.int .i64 (xu:Int),.int .i64 xq] 106)=W):=⟨_,rfl⟩;rw[HW1.out]at U1 X1 S1 HB1;have HX1:=Za X1;clear hbl X1 hs;obtain⟨sb0,HSB⟩:∃sb0,Hid (setsB ⟨ua,us,uk,uy,ui⟩=sb0):=⟨_,rfl⟩
 by_cases h5:uk=5
 ·have h5':(uk==5)=true:=by simp[h5]
  obtain rfl:false=b:=by
   rw[←HB.out];unfold Yy Vy
   simp[h5]
  clear h5;have HK:=Za fun w' (hg:Zh w1 w')=>And.intro (U1.below hg (nlr _)).c5 (HX1.below hg (nlr _)).c5
  go_enter Tryz.func84,Tryz.ntmps84
  go_upto_region 1 with fail
  rw[HW1.out]
  go_cut [45] (fun c wx=>c=.bool true∧Hid (Zh w1 wx))
  case first=>
   refine rgn HK.out fun wd hgd hHeld=>?_;refine ty 0 (.pointer (some ⟨w.heap.size,2,none⟩)) ?_;refine ty 1 (.int .i64 uk) ?_;refine ty 2 (.bool true) ?_;refine ty 3 (.bool true) ?_;refine ts 4 ?_;refine ts 5 ?_;refine ts 6 ?_;refine ty 7 (.bool true) ?_;refine ty 8 (.bool true) ?_;refine ts 9 ?_;refine ts 10 ?_;refine ts 11 ?_;refine ts 12 ?_;refine ts 13 ?_;refine ty 14 (.bool true) ?_;refine ty 15 (.bool true) ?_;refine ts 16 ?_;refine ts 17 ?_;refine ts 18 ?_;refine ts 19 ?_;refine ts 20 ?_;refine ty 21 (.bool true) ?_;refine ty 22 (.bool true) ?_;refine ts 23 ?_;refine ts 24 ?_;refine ts 25 ?_;refine ts 26 ?_;refine ts 27 ?_;refine ts 28 ?_;refine ty 29 (.bool true) ?_;refine ty 30 (.bool true) ?_;refine ts 31 ?_;refine ts 32 ?_;refine ts 33 ?_;refine ts 34 ?_;refine ts 35 ?_;refine ts 36 ?_;refine ts 37 ?_;refine ts 38 ?_;refine ts 39 ?_;refine ty 40 (.bool true) ?_;refine wpAnyH_done (by kernel_rfl) ?_ _
   go_wp2_with fail
   go_meet
   exact⟨rfl,hgd⟩
  obtain⟨rfl,HGR⟩:=hcut;obtain⟨w2,rfl⟩:∃w2,w2=wc:=⟨wc,rfl⟩;have HB2:=Za (HB1.trans (HGR.mono HB1.size));have U2:=Za (U1.below HGR.out (nlr _));have X2:=Za (HX1.below HGR.out (nlr _));clear HK HGR U1 HX1
  go_wp2_with fail
  go_ret
  exact⟨rfl,HB2.out⟩
 have h5':(uk==5)=false:=by simp[h5]
 by_cases h3:uk=3
 ·have h3':(uk==3)=true:=by simp[h3]
  obtain rfl:false=b:=by
   rw[←HB.out];unfold Yy Vy
   simp[h3]
  clear h5 h3;have HK:=Za fun w' (hg:Zh w1 w')=>And.intro (U1.below hg (nlr _)).c5 (HX1.below hg (nlr _)).c5
  go_enter Tryz.func84,Tryz.ntmps84
  go_upto_region 1 with fail
  rw[HW1.out]
  go_cut [45] (fun c wx=>c=.bool true∧Hid (Zh w1 wx))
  case first=>
   refine rgn HK.out fun wd hgd hHeld=>?_;refine ty 0 (.pointer (some ⟨w.heap.size,2,none⟩)) ?_;refine ty 1 (.int .i64 uk) ?_;refine ty 2 (.bool false) ?_;refine ty 3 (.bool false) ?_;refine ty 4 (.pointer (some ⟨w.heap.size,2,none⟩)) ?_;refine ty 5 (.int .i64 uk) ?_;refine ty 6 (.bool true) ?_;refine ty 7 (.bool true) ?_;refine ty 8 (.bool true) ?_;refine ts 9 ?_;refine ts 10 ?_;refine ts 11 ?_;refine ts 12 ?_;refine ts 13 ?_;refine ty 14 (.bool true) ?_;refine ty 15 (.bool true) ?_;refine ts 16 ?_;refine ts 17 ?_;refine ts 18 ?_;refine ts 19 ?_;refine ts 20 ?_;refine ty 21 (.bool true) ?_;refine ty 22 (.bool true) ?_;refine ts 23 ?_;refine ts 24 ?_;refine ts 25 ?_;refine ts 26 ?_;refine ts 27 ?_;refine ts 28 ?_;refine ty 29 (.bool true) ?_;refine ty 30 (.bool true) ?_;refine ts 31 ?_;refine ts 32 ?_;refine ts 33 ?_;refine ts 34 ?_;refine ts 35 ?_;refine ts 36 ?_;refine ts 37 ?_;refine ts 38 ?_;refine ts 39 ?_;refine ty 40 (.bool true) ?_;refine wpAnyH_done (by kernel_rfl) ?_ _
   go_wp2_with fail
   go_meet
   exact⟨rfl,hgd⟩
  obtain⟨rfl,HGR⟩:=hcut;obtain⟨w2,rfl⟩:∃w2,w2=wc:=⟨wc,rfl⟩;have HB2:=Za (HB1.trans (HGR.mono HB1.size));have U2:=Za (U1.below HGR.out (nlr _));have X2:=Za (HX1.below HGR.out (nlr _));clear HK HGR U1 HX1
  go_wp2_with fail
  go_ret
  exact⟨rfl,HB2.out⟩
 have h3':(uk==3)=false:=by simp[h3]
 have HS4:Hid (sb0=decide (uk=4)):=by unfold Hid;rw[←HSB.out];unfold setsB;simp[h3]
 have HKD:Hid (uk=1∨uk=2∨uk=4):=by unfold Hid;omega
 clear h5 h3
 by_cases h2:sb0=xs
 ·have h2':(sb0 != xs)=false:=by simp[h2]
  by_cases hky:uy=xk
  ·have hky':(uy != xk)=false:=by simp[hky]
   by_cases hau:us.length≤xu
   ·have hau':(us.length:Int)≤(xu:Int):=by omega
    obtain rfl:false=b:=by
     rw[←HB.out];unfold Yy Vy;rw[show decide (0≤(xu:Int)∧(xu:Int)<(us.length:Int)∧xq≤us.getD (xu:Int).toNat 0)=false from decide_eq_false (fun h=>by omega)]
     simp
    clear hky hau;have HK:=Za fun w' (hg:Zh w1 w')=>And.intro (U1.below hg (nlr _)).c5 (HX1.below hg (nlr _)).c5
    go_enter Tryz.func84,Tryz.ntmps84
    go_upto_region 1 with fail
    rw[HW1.out]
    go_cut [45] (fun c wx=>c=.bool true∧Hid (Zh w1 wx))
    case first=>
     refine rgn HK.out fun wd hgd hHeld=>?_;refine ty 0 (.pointer (some ⟨w.heap.size,2,none⟩)) ?_;refine ty 1 (.int .i64 uk) ?_;refine ty 2 (.bool false) ?_;refine ty 3 (.bool false) ?_;refine ty 4 (.pointer (some ⟨w.heap.size,2,none⟩)) ?_;refine ty 5 (.int .i64 uk) ?_;refine ty 6 (.bool false) ?_;refine ty 7 (.bool false) ?_;refine ty 8 (.bool false) ?_;refine ty 9 (.agg #[.int .i64 ua,.slice a5 us.length cap5,.int .i64 uk,.int .i64 uy,.int .i64 ui]) ?_;refine ty 11 (.pointer (some ⟨w.heap.size+1,0,none⟩)) ?_;refine ty 12 (.bool xs) ?_;refine wr 10 fun K hK=>?_;go_simp;refine(sets_ref ua uk uy ui us a5 cap5 _).mono ?_;rintro e w_10 ⟨rfl,hb_10⟩;rw[HSB.out];have hg_10:Zh w1 w_10:=Zd hgd hb_10;refine hK.out _ _ (HK.out _ hg_10) (fun _=>?_);clear hK K
     try simp only[Act.put,Zt,Zs,Zr]
     refine ty 13 (.bool false) ?_;refine ty 14 (.bool false) ?_;refine ty 15 (.bool false) ?_;refine ty 16 (.pointer (some ⟨w.heap.size,3,none⟩)) ?_;refine ty 17 (.int .i64 uy) ?_;refine ty 18 (.pointer (some ⟨w.heap.size+1,1,none⟩)) ?_;refine ty 19 (.int .i64 xk) ?_;refine ty 20 (.bool false) ?_;refine ty 21 (.bool false) ?_;refine ty 22 (.bool false) ?_;refine ty 23 (.pointer (some ⟨w.heap.size+1,3,none⟩)) ?_;refine ty 24 (.int .i64 (xu:Int)) ?_;refine ty 25 (.pointer (some ⟨w.heap.size,1,none⟩)) ?_;refine ty 26 (.slice a5 us.length cap5) ?_;refine ty 27 (.int .i64 us.length) ?_;refine ty 28 (.bool true) ?_;refine ty 29 (.bool true) ?_;refine ty 30 (.bool true) ?_;refine ts 31 ?_;refine ts 32 ?_;refine ts 33 ?_;refine ts 34 ?_;refine ts 35 ?_;refine ts 36 ?_;refine ts 37 ?_;refine ts 38 ?_;refine ts 39 ?_;refine ty 40 (.bool true) ?_;refine wpAnyH_done (by kernel_rfl) ?_ _
     go_wp2_with fail
     go_meet
     exact⟨rfl,hg_10⟩
    obtain⟨rfl,HGR⟩:=hcut;obtain⟨w2,rfl⟩:∃w2,w2=wc:=⟨wc,rfl⟩;have HB2:=Za (HB1.trans (HGR.mono HB1.size));have U2:=Za (U1.below HGR.out (nlr _));have X2:=Za (HX1.below HGR.out (nlr _));clear HK HGR U1 HX1
    go_wp2_with fail
    go_ret
    exact⟨rfl,HB2.out⟩
   have hau':¬(us.length:Int)≤(xu:Int):=by omega
   have hau2:(xu:Int)<(us.length:Int):=by omega
   have hau0:¬(xu:Int)<0:=by omega
   obtain⟨yl,HYL⟩:∃yl,Hid (us.getD xu 0=yl):=⟨_,rfl⟩;obtain⟨sb,so,hsb,kl⟩:=rowAtP S1.out (show xu<us.length by omega);rw[HYL.out]at kl;subst hsb
   have HEE:Hid (Yy ⟨ua,us,uk,uy,ui⟩ ⟨xs,xk,xi,xu,xq⟩=(decide (xq≤yl)&&(!xs||decide (ui=xi)))):=by
    unfold Hid Yy Vy;simp only[Int.toNat_natCast,HYL.out];rw[decide_eq_true HKD.out,←HS4.out,h2,decide_eq_true hky]
    have e:decide (0≤(xu:Int)∧(xu:Int)<(us.length:Int)∧xq≤yl)=decide (xq≤yl):=by
     by_cases h:xq≤yl
     ·rw[decide_eq_true h,decide_eq_true ⟨by omega,hau2,h⟩]
     rw[decide_eq_false h,decide_eq_false (fun hh=>h hh.2.2)]
    rw[e]
    simp
   rw[HB.out]at HEE;clear hky
   by_cases hse:yl<xq
   ·obtain rfl:false=b:=by rw[HEE.out,decide_eq_false (show¬xq≤yl by omega),Bool.false_and]
    have HK:=Za fun w' (hg:Zh w1 w')=>And.intro (U1.below hg (nlr _)).c5 (And.intro (HX1.below hg (nlr _)).c5 (vA hg kl))
    go_enter Tryz.func84,Tryz.ntmps84
    go_upto_region 1 with fail
    rw[HW1.out]
    go_cut [45] (fun c wx=>c=.bool true∧Hid (Zh w1 wx))
    case first=>
     refine rgn HK.out fun wd hgd hHeld=>?_;refine ty 0 (.pointer (some ⟨w.heap.size,2,none⟩)) ?_;refine ty 1 (.int .i64 uk) ?_;refine ty 2 (.bool false) ?_;refine ty 3 (.bool false) ?_;refine ty 4 (.pointer (some ⟨w.heap.size,2,none⟩)) ?_;refine ty 5 (.int .i64 uk) ?_;refine ty 6 (.bool false) ?_;refine ty 7 (.bool false) ?_;refine ty 8 (.bool false) ?_;refine ty 9 (.agg #[.int .i64 ua,.slice (some ⟨sb,so,none⟩) us.length cap5,.int .i64 uk,.int .i64 uy,.int .i64 ui]) ?_;refine ty 11 (.pointer (some ⟨w.heap.size+1,0,none⟩)) ?_;refine ty 12 (.bool xs) ?_;refine wr 10 fun K hK=>?_;go_simp;refine(sets_ref ua uk uy ui us (some ⟨sb,so,none⟩) cap5 _).mono ?_;rintro e w_10 ⟨rfl,hb_10⟩;rw[HSB.out];have hg_10:Zh w1 w_10:=Zd hgd hb_10;refine hK.out _ _ (HK.out _ hg_10) (fun _=>?_);clear hK K
     try simp only[Act.put,Zt,Zs,Zr]
     refine ty 13 (.bool false) ?_;refine ty 14 (.bool false) ?_;refine ty 15 (.bool false) ?_;refine ty 16 (.pointer (some ⟨w.heap.size,3,none⟩)) ?_;refine ty 17 (.int .i64 uy) ?_;refine ty 18 (.pointer (some ⟨w.heap.size+1,1,none⟩)) ?_;refine ty 19 (.int .i64 xk) ?_;refine ty 20 (.bool false) ?_;refine ty 21 (.bool false) ?_;refine ty 22 (.bool false) ?_;refine ty 23 (.pointer (some ⟨w.heap.size+1,3,none⟩)) ?_;refine ty 24 (.int .i64 (xu:Int)) ?_;refine ty 25 (.pointer (some ⟨w.heap.size,1,none⟩)) ?_;refine ty 26 (.slice (some ⟨sb,so,none⟩) us.length cap5) ?_;refine ty 27 (.int .i64 us.length) ?_;refine ty 28 (.bool false) ?_;refine ty 29 (.bool false) ?_;refine ty 30 (.bool false) ?_;refine ty 31 (.pointer (some ⟨w.heap.size,1,none⟩)) ?_;refine ty 32 (.slice (some ⟨sb,so,none⟩) us.length cap5) ?_;refine ty 33 (.pointer (some ⟨w.heap.size+1,3,none⟩)) ?_;refine ty 34 (.int .i64 (xu:Int)) ?_;refine ty 35 (.pointer (some ⟨sb,so+xu,none⟩)) ?_;refine ty 36 (.int .i64 yl) ?_;refine ty 37 (.pointer (some ⟨w.heap.size+1,4,none⟩)) ?_;refine ty 38 (.int .i64 xq) ?_;refine ty 39 (.bool true) ?_;refine ty 40 (.bool true) ?_;refine wpAnyH_done (by kernel_rfl) ?_ _
     go_wp2_with fail
     go_meet
     exact⟨rfl,hg_10⟩
    obtain⟨rfl,HGR⟩:=hcut;obtain⟨w2,rfl⟩:∃w2,w2=wc:=⟨wc,rfl⟩;have HB2:=Za (HB1.trans (HGR.mono HB1.size));have U2:=Za (U1.below HGR.out (nlr _));have X2:=Za (HX1.below HGR.out (nlr _));clear HK HGR U1 HX1
    go_wp2_with fail
    go_ret
    exact⟨rfl,HB2.out⟩
   have hbb:b=(!xs||decide (ui=xi)):=by rw[HEE.out,decide_eq_true (show xq≤yl by omega),Bool.true_and]
   have HK:=Za fun w' (hg:Zh w1 w')=>And.intro (U1.below hg (nlr _)).c5 (And.intro (HX1.below hg (nlr _)).c5 (vA hg kl))
   go_enter Tryz.func84,Tryz.ntmps84
   go_upto_region 1 with fail
   rw[HW1.out]
   go_cut [45] (fun c wx=>c=.bool false∧Hid (Zh w1 wx))
   case first=>
    refine rgn HK.out fun wd hgd hHeld=>?_;refine ty 0 (.pointer (some ⟨w.heap.size,2,none⟩)) ?_;refine ty 1 (.int .i64 uk) ?_;refine ty 2 (.bool false) ?_;refine ty 3 (.bool false) ?_;refine ty 4 (.pointer (some ⟨w.heap.size,2,none⟩)) ?_;refine ty 5 (.int .i64 uk) ?_;refine ty 6 (.bool false) ?_;refine ty 7 (.bool false) ?_;refine ty 8 (.bool false) ?_;refine ty 9 (.agg #[.int .i64 ua,.slice (some ⟨sb,so,none⟩) us.length cap5,.int .i64 uk,.int .i64 uy,.int .i64 ui]) ?_;refine ty 11 (.pointer (some ⟨w.heap.size+1,0,none⟩)) ?_;refine ty 12 (.bool xs) ?_;refine wr 10 fun K hK=>?_;go_simp;refine(sets_ref ua uk uy ui us (some ⟨sb,so,none⟩) cap5 _).mono ?_;rintro e w_10 ⟨rfl,hb_10⟩;rw[HSB.out];have hg_10:Zh w1 w_10:=Zd hgd hb_10;refine hK.out _ _ (HK.out _ hg_10) (fun _=>?_);clear hK K
    try simp only[Act.put,Zt,Zs,Zr]
    refine ty 13 (.bool false) ?_;refine ty 14 (.bool false) ?_;refine ty 15 (.bool false) ?_;refine ty 16 (.pointer (some ⟨w.heap.size,3,none⟩)) ?_;refine ty 17 (.int .i64 uy) ?_;refine ty 18 (.pointer (some ⟨w.heap.size+1,1,none⟩)) ?_;refine ty 19 (.int .i64 xk) ?_;refine ty 20 (.bool false) ?_;refine ty 21 (.bool false) ?_;refine ty 22 (.bool false) ?_;refine ty 23 (.pointer (some ⟨w.heap.size+1,3,none⟩)) ?_;refine ty 24 (.int .i64 (xu:Int)) ?_;refine ty 25 (.pointer (some ⟨w.heap.size,1,none⟩)) ?_;refine ty 26 (.slice (some ⟨sb,so,none⟩) us.length cap5) ?_;refine ty 27 (.int .i64 us.length) ?_;refine ty 28 (.bool false) ?_;refine ty 29 (.bool false) ?_;refine ty 30 (.bool false) ?_;refine ty 31 (.pointer (some ⟨w.heap.size,1,none⟩)) ?_;refine ty 32 (.slice (some ⟨sb,so,none⟩) us.length cap5) ?_;refine ty 33 (.pointer (some ⟨w.heap.size+1,3,none⟩)) ?_;refine ty 34 (.int .i64 (xu:Int)) ?_;refine ty 35 (.pointer (some ⟨sb,so+xu,none⟩)) ?_;refine ty 36 (.int .i64 yl) ?_;refine ty 37 (.pointer (some ⟨w.heap.size+1,4,none⟩)) ?_;refine ty 38 (.int .i64 xq) ?_;refine ty 39 (.bool false) ?_;refine ty 40 (.bool false) ?_;refine wpAnyH_done (by kernel_rfl) ?_ _
    go_wp2_with fail
    go_meet
    exact⟨rfl,hg_10⟩
   obtain⟨rfl,HGR⟩:=hcut;obtain⟨w2,rfl⟩:∃w2,w2=wc:=⟨wc,rfl⟩;have HB2:=Za (HB1.trans (HGR.mono HB1.size));have U2:=Za (U1.below HGR.out (nlr _));have X2:=Za (HX1.below HGR.out (nlr _));clear HK HGR U1 HX1;have u4:=U2.get 4 rfl;have x0:=X2.get 0 rfl;have x2:=X2.get 2 rfl;have HBQ:=Za hbb;clear hbb h2
   cases xs with
   |false=>
    obtain rfl:true=b:=by rw[HBQ.out];rfl
    go_wp2_with fail
    go_ret
    exact⟨rfl,HB2.out⟩
   |true=>
    by_cases hit:ui=xi
    ·have hit':(ui==xi)=true:=by simp[hit]
     obtain rfl:true=b:=by rw[HBQ.out,decide_eq_true hit];rfl
     clear hit
     go_wp2_with fail
     go_ret
     exact⟨rfl,HB2.out⟩
    have hit':(ui==xi)=false:=by simp[hit]
    obtain rfl:false=b:=by rw[HBQ.out,decide_eq_false hit];rfl
    clear hit
    go_wp2_with fail
    go_ret
    exact⟨rfl,HB2.out⟩
  have hky':(uy != xk)=true:=by simp[hky]
  obtain rfl:false=b:=by
   rw[←HB.out];unfold Yy Vy
   simp[hky]
  clear hky;have HK:=Za fun w' (hg:Zh w1 w')=>And.intro (U1.below hg (nlr _)).c5 (HX1.below hg (nlr _)).c5
  go_enter Tryz.func84,Tryz.ntmps84
  go_upto_region 1 with fail
  rw[HW1.out]
  go_cut [45] (fun c wx=>c=.bool true∧Hid (Zh w1 wx))
  case first=>
   refine rgn HK.out fun wd hgd hHeld=>?_;refine ty 0 (.pointer (some ⟨w.heap.size,2,none⟩)) ?_;refine ty 1 (.int .i64 uk) ?_;refine ty 2 (.bool false) ?_;refine ty 3 (.bool false) ?_;refine ty 4 (.pointer (some ⟨w.heap.size,2,none⟩)) ?_;refine ty 5 (.int .i64 uk) ?_;refine ty 6 (.bool false) ?_;refine ty 7 (.bool false) ?_;refine ty 8 (.bool false) ?_;refine ty 9 (.agg #[.int .i64 ua,.slice a5 us.length cap5,.int .i64 uk,.int .i64 uy,.int .i64 ui]) ?_;refine ty 11 (.pointer (some ⟨w.heap.size+1,0,none⟩)) ?_;refine ty 12 (.bool xs) ?_;refine wr 10 fun K hK=>?_;go_simp;refine(sets_ref ua uk uy ui us a5 cap5 _).mono ?_;rintro e w_10 ⟨rfl,hb_10⟩;rw[HSB.out];have hg_10:Zh w1 w_10:=Zd hgd hb_10;refine hK.out _ _ (HK.out _ hg_10) (fun _=>?_);clear hK K
   try simp only[Act.put,Zt,Zs,Zr]
   refine ty 13 (.bool false) ?_;refine ty 14 (.bool false) ?_;refine ty 15 (.bool false) ?_;refine ty 16 (.pointer (some ⟨w.heap.size,3,none⟩)) ?_;refine ty 17 (.int .i64 uy) ?_;refine ty 18 (.pointer (some ⟨w.heap.size+1,1,none⟩)) ?_;refine ty 19 (.int .i64 xk) ?_;refine ty 20 (.bool true) ?_;refine ty 21 (.bool true) ?_;refine ty 22 (.bool true) ?_;refine ts 23 ?_;refine ts 24 ?_;refine ts 25 ?_;refine ts 26 ?_;refine ts 27 ?_;refine ts 28 ?_;refine ty 29 (.bool true) ?_;refine ty 30 (.bool true) ?_;refine ts 31 ?_;refine ts 32 ?_;refine ts 33 ?_;refine ts 34 ?_;refine ts 35 ?_;refine ts 36 ?_;refine ts 37 ?_;refine ts 38 ?_;refine ts 39 ?_;refine ty 40 (.bool true) ?_;refine wpAnyH_done (by kernel_rfl) ?_ _
   go_wp2_with fail
   go_meet
   exact⟨rfl,hg_10⟩
  obtain⟨rfl,HGR⟩:=hcut;obtain⟨w2,rfl⟩:∃w2,w2=wc:=⟨wc,rfl⟩;have HB2:=Za (HB1.trans (HGR.mono HB1.size));have U2:=Za (U1.below HGR.out (nlr _));have X2:=Za (HX1.below HGR.out (nlr _));clear HK HGR U1 HX1
  go_wp2_with fail
  go_ret
  exact⟨rfl,HB2.out⟩
 have h2':(sb0 != xs)=true:=by simp[h2]
 obtain rfl:false=b:=by
  rw[←HB.out];unfold Yy Vy;rw[show(decide (uk=4)==xs)=false by rw[←HS4.out];simp[h2]]
  simp
 skip
 have HK:=Za fun w' (hg:Zh w1 w')=>And.intro (U1.below hg (nlr _)).c5 (HX1.below hg (nlr _)).c5
 go_enter Tryz.func84,Tryz.ntmps84
 go_upto_region 1 with fail
 rw[HW1.out]
 go_cut [45] (fun c wx=>c=.bool true∧Hid (Zh w1 wx))
 case first=>
  refine rgn HK.out fun wd hgd hHeld=>?_;refine ty 0 (.pointer (some ⟨w.heap.size,2,none⟩)) ?_;refine ty 1 (.int .i64 uk) ?_;refine ty 2 (.bool false) ?_;refine ty 3 (.bool false) ?_;refine ty 4 (.pointer (some ⟨w.heap.size,2,none⟩)) ?_;refine ty 5 (.int .i64 uk) ?_;refine ty 6 (.bool false) ?_;refine ty 7 (.bool false) ?_;refine ty 8 (.bool false) ?_;refine ty 9 (.agg #[.int .i64 ua,.slice a5 us.length cap5,.int .i64 uk,.int .i64 uy,.int .i64 ui]) ?_;refine ty 11 (.pointer (some ⟨w.heap.size+1,0,none⟩)) ?_;refine ty 12 (.bool xs) ?_;refine wr 10 fun K hK=>?_;go_simp;refine(sets_ref ua uk uy ui us a5 cap5 _).mono ?_;rintro e w_10 ⟨rfl,hb_10⟩;rw[HSB.out];have hg_10:Zh w1 w_10:=Zd hgd hb_10;refine hK.out _ _ (HK.out _ hg_10) (fun _=>?_);clear hK K
  try simp only[Act.put,Zt,Zs,Zr]
  refine ty 13 (.bool true) ?_;refine ty 14 (.bool true) ?_;refine ty 15 (.bool true) ?_;refine ts 16 ?_;refine ts 17 ?_;refine ts 18 ?_;refine ts 19 ?_;refine ts 20 ?_;refine ty 21 (.bool true) ?_;refine ty 22 (.bool true) ?_;refine ts 23 ?_;refine ts 24 ?_;refine ts 25 ?_;refine ts 26 ?_;refine ts 27 ?_;refine ts 28 ?_;refine ty 29 (.bool true) ?_;refine ty 30 (.bool true) ?_;refine ts 31 ?_;refine ts 32 ?_;refine ts 33 ?_;refine ts 34 ?_;refine ts 35 ?_;refine ts 36 ?_;refine ts 37 ?_;refine ts 38 ?_;refine ts 39 ?_;refine ty 40 (.bool true) ?_;refine wpAnyH_done (by kernel_rfl) ?_ _
  go_wp2_with fail
  go_meet
  exact⟨rfl,hg_10⟩
 obtain⟨rfl,HGR⟩:=hcut;obtain⟨w2,rfl⟩:∃w2,w2=wc:=⟨wc,rfl⟩;have HB2:=Za (HB1.trans (HGR.mono HB1.size));have U2:=Za (U1.below HGR.out (nlr _));have X2:=Za (HX1.below HGR.out (nlr _));clear HK HGR U1 HX1
 go_wp2_with fail
 go_ret
 exact⟨rfl,HB2.out⟩

set_option maxRecDepth 100000 in
set_option maxHeartbeats 2000000 in
theorem yV(xs:Bool)(xk xi xq:Int)(xu:Nat)(lv:Value)(l:List Upd)(w:World)(h:Vh w lv l)(hk:∀u ∈ l,1≤u.kind∧u.kind≤5):
  Calls Tryz.prog 83 #[.agg #[.bool xs,.int .i64 xk,.int .i64 xi,.int .i64 (xu:Int),.int .i64 xq],lv] w fun e w'=>e=.returned (.bool (l.all fun u=> !Yy u ⟨xs,xk,xi,xu,xq⟩))∧Below w.heap.size w w':=by
 have hlen:=h.len_le;have LW:=Za h;have HKK:=Za hk;obtain⟨a,cap,rfl,-,-,-⟩:=id h;obtain⟨b,HB⟩:∃b,Hid ((l.all fun u=> !Yy u ⟨xs,xk,xi,xu,xq⟩)=b):=⟨_,rfl⟩;rw[HB.out];have X1:=Za (Box.new w [.bool xs,.int .i64 xk,.int .i64 xi,.int .i64 (xu:Int),.int .i64 xq] 106);have HB1:=Za (bpl w (.cells #[.bool xs,.int .i64 xk,.int .i64 xi,.int .i64 (xu:Int),.int .i64 xq] 106));obtain⟨w1,HW1⟩:∃W,Hid (w.alloc (.cells #[.bool xs,.int .i64 xk,.int .i64 xi,.int .i64 (xu:Int),.int .i64 xq] 106)=W):=⟨_,rfl⟩;rw[HW1.out]at X1 HB1;clear h hk
 go_enter Tryz.func83,Tryz.ntmps83
 go_upto_region 1 with fail
 rw[HW1.out]
 go_wp2_with fail
 go_loopw [9] (fun i wr=>∃k:Nat,k≤l.length∧i=.int .i64 k∧Hid (∀u ∈ l.take k,Yy u ⟨xs,xk,xi,xu,xq⟩=false)∧Hid (Below w1.heap.size w1 wr)) (fun i _=>l.length - (intOf i).toNat)
 case atStart=>exact⟨0,Nat.zero_le _,rfl,fun u hu=>by simp at hu,Za (Below.refl _ _)⟩
 obtain⟨k,hk,rfl,HN,HB2⟩:=hrel;obtain⟨w2,rfl⟩:∃w2,w2=wr:=⟨wr,rfl⟩;have HBW:=Za (HB1.trans (HB2.mono HB1.size))
 by_cases hlt:k<l.length
 ·have hlt':(k:Int)<(l.length:Int):=by omega
  obtain⟨u,HU⟩:∃u,Hid (l[k]? =some u):=⟨_,List.getElem?_eq_getElem hlt⟩;have HKU:=Za (HKK.out u (List.mem_of_getElem? HU.out));obtain⟨ub,uo,a5,cap5,hba,d0,d1,d2,d3,d4,hsv,-⟩:=(LW.below HBW.out (nlr _)).at HU.out;subst hba;obtain⟨ua,us,uk,uy,ui⟩:=u;have hbp:=bpl w2 (.cells #[.int .i64 ua,.slice a5 us.length cap5,.int .i64 uk,.int .i64 uy,.int .i64 ui] 33);have U3:=Za (Box.new w2 [.int .i64 ua,.slice a5 us.length cap5,.int .i64 uk,.int .i64 uy,.int .i64 ui] 33);have X3:=Za ((X1.below HB2.out (nlr _)).below hbp (nlr _));have S3:=Za (hsv.below hbp (nlr _));have HB3:=Za (Zb HB2.out hbp);obtain⟨gu,HGU⟩:∃gu,Hid (w2.heap.size=gu):=⟨_,rfl⟩;obtain⟨w3,HW3⟩:∃W,Hid (w2.alloc (.cells #[.int .i64 ua,.slice a5 us.length cap5,.int .i64 uk,.int .i64 uy,.int .i64 ui] 33)=W):=⟨_,rfl⟩;rw[HW3.out]at U3 X3 S3 HB3;rw[HGU.out]at U3;clear hbp hsv
  go_upto_region 4 with fail
  rw[HW3.out,HGU.out];clear d0 d1 d2 d3 d4;have u0:=U3.get 0 rfl;have x0:=X3.get 0 rfl;have u1:=U3.get 1 rfl;have x1:=X3.get 1 rfl;have u2:=U3.get 2 rfl;have x2:=X3.get 2 rfl;have u3:=U3.get 3 rfl;have x3:=X3.get 3 rfl;have u4:=U3.get 4 rfl;have x4:=X3.get 4 rfl
  go_wp2_with fail
  refine(ends_ref ua uk uy ui us a5 cap5 xs xk xi xq xu _ S3.out HKU.out).mono ?_;rintro e w4 ⟨rfl,hb4⟩;have HB4:=Za (Zb HB3.out hb4);have HB5:=Za (HB1.trans (HB4.mono HB1.size));clear u0 u1 u2 u3 u4 x0 x1 x2 x3 x4 hb4;obtain⟨c,HC⟩:∃c,Hid (Yy ⟨ua,us,uk,uy,ui⟩ ⟨xs,xk,xi,xu,xq⟩=c):=⟨_,rfl⟩;rw[HC.out]
  cases c with
  |true=>
   obtain rfl:false=b:=by
    rw[←HB.out]
    exact(List.all_eq_false.2 ⟨_,List.mem_of_getElem? HU.out,by simp[HC.out]⟩).symm
   go_wp2_with fail
   go_ret
   exact⟨rfl,HB5.out⟩
  |false=>
   have HN1:Hid (∀v ∈ l.take (k+1),Yy v ⟨xs,xk,xi,xu,xq⟩=false):=fun v hv=>by
    rw[take_one HU.out]at hv
    rcases List.mem_append.1 hv with hv|hv
    ·exact HN.out v hv
    rw[List.mem_singleton.1 hv];exact HC.out
   go_wp2_with fail
   go_roundw
   case rel=>exact⟨k+1,by omega,by go_num,HN1,HB4⟩
   case measure=>simp[intOf];omega
 have hlt':¬(k:Int)<(l.length:Int):=by omega
 have hkl:l.take k=l:=List.take_of_length_le (by omega);rw[hkl]at HN
 obtain rfl:true=b:=by
  rw[←HB.out]
  exact(List.all_eq_true.2 fun u hu=>by simp[HN.out u hu]).symm
 clear hkl
 go_wp2_with fail
 go_ret
 exact⟨rfl,HBW.out⟩
end Go.Proofs.YtfhecilhcofboaaGreat
