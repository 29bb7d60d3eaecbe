/- node.takeUpdate, node.takeState. -/
import Derived.Test.YtfhecilhcofboaaGreatNdI
import Derived.Test.YtfhecilhcofboaaGreatJoB
namespace Go.Proofs.YtfhecilhcofboaaGreat
open Go.RowKit

def tuV(d:NdS)(u:Upd):NdS:=if skipB d u=true then d else playV d u

set_option maxRecDepth 100000 in
set_option maxHeartbeats 4000000 in
theorem takeUpdate_node(B g:Nat)(uv:Value)(d:NdS)(u:Upd)(w:World)(hd:NdV w B g d)(hu:∀w',Below B w w'→Jf w' uv u):
  Calls Tryz.prog 49 #[.pointer (some ⟨g,0,none⟩),uv] w fun e w'=>e=.returned (.int .i64 (tuE d u))∧NdV w' B g (tuV d u)∧Below B w w':=by
 have hui:=hu;obtain⟨sv,rfl,hs⟩:=hu w (Below.refl _ _);obtain⟨a7,c7,rfl,-,-,-⟩:=id hs;have hbp:=bpl w (.cells #[.int .i64 u.author,.slice a7 u.seen.length c7,.int .i64 u.kind,.int .i64 u.key,.int .i64 u.item] 33);have D0:=hd.below hbp (nlr _);have V0:=Za (Box.new w [.int .i64 u.author,.slice a7 u.seen.length c7,.int .i64 u.kind,.int .i64 u.key,.int .i64 u.item] 33);have hgl:=hd.lt;have HB0:Hid (Below B w (w.alloc (.cells #[.int .i64 u.author,.slice a7 u.seen.length c7,.int .i64 u.kind,.int .i64 u.key,.int .i64 u.item] 33))):=hbp.mono (by omega);have UW:=Za hui;obtain⟨W1,HW1⟩:∃W1,Hid (w.alloc (.cells #[.int .i64 u.author,.slice a7 u.seen.length c7,.int .i64 u.kind,.int .i64 u.key,.int .i64 u.item] 33)=W1):=⟨_,rfl⟩;have hsz:W1.heap.size=w.heap.size+1:=by rw[←HW1.out,World.size_alloc]
 rw[HW1.out]at D0 V0 HB0;obtain⟨a1,c1,a2,c2,a3,c3,a4,c4,a5,c5,a6,c6,hbox,-,hcl,-,-,-⟩:=D0.form;have HX:=Za hbox;have HD:=Za D0;have HC:=Za hcl;have HSZ:=Za hsz;clear hui hs hd hbp hbox hcl D0 hsz;have HK:=Za fun w' (hg:Zh W1 w')=>And.intro (HX.below hg (nlr _)).c7 (V0.below hg (nlr _)).c5;have HNO:=Za (HD.value HX.out).node;obtain⟨E,HE⟩:∃E,Hid (Zz u d.st.clock.length=E):=⟨_,rfl⟩;obtain⟨b,HBB⟩:∃b,Hid (skipB d u=b):=⟨_,rfl⟩;obtain⟨T,HT⟩:∃T,Hid (tuE d u=T):=⟨_,rfl⟩;obtain⟨Y,HY⟩:∃Y,Hid (tuV d u=Y):=⟨_,rfl⟩;rw[HT.out,HY.out]
 go_enter Tryz.func49,Tryz.ntmps49
 go_upto_region 1 with fail
 rw[HW1.out]
 go_cut [20] (fun c wx=>c=.bool b∧Hid (Zh W1 wx))
 case first=>
  refine rgn HK.out fun wd hg0 hHeld=>?_;refine ty 0 (.agg #[.int .i64 u.author,.slice a7 u.seen.length c7,.int .i64 u.kind,.int .i64 u.key,.int .i64 u.item]) ?_;refine ty 1 (.pointer (some ⟨g,0,none⟩)) ?_;refine ty 2 (.pointer (some ⟨g,0,none⟩)) ?_;refine ty 3 (.agg #[.int .i64 d.self,.slice a1 d.st.clock.length c1,.slice a2 d.st.lives.length c2,.slice a3 d.st.tals.length c3,.slice a4 d.base.length c4,.slice a5 d.log.length c5,.slice a6 d.known.length c6]) ?_
  by_cases hE:E=0
  ·have hE':(E==0)=true:=by simp[hE]
   have hfit:FitU u:=xY (n:=d.st.clock.length) (by rw[HE.out];exact hE);have hsk:Xu u d.st.clock=b:=by rw[←HBB.out];unfold skipB;rw[HE.out,hE];simp
   have HSK:=Za hsk;clear hE hsk;refine wr 4 fun K hK=>?_;go_simp;refine(Yv _ d _ (HNO.below hg0 (nlr _))).mono ?_;rintro e w2 ⟨rfl,hb2⟩;have hg2:Zh W1 w2:=Zd hg0 hb2;refine hK.out _ _ (HK.out _ hg2) (fun hHeld2=>?_);clear hK K
   try simp only[Act.put,Zt,Zs,Zr]
   refine wr 5 fun K hK=>?_;go_simp;refine(xE _ u _ _ (UW.out _ (HB0.trans (hg2.mono (by have:=HSZ.out;omega))))).mono ?_;rintro e w3 ⟨rfl,hb3⟩;rw[HE.out];have hg3:Zh W1 w3:=Zd hg2 hb3;refine hK.out _ _ (HK.out _ hg3) (fun hHeld3=>?_);clear hK K
   try simp only[Act.put,Zt,Zs,Zr]
   refine ty 6 (.bool true) ?_;refine ty 7 (.bool true) ?_;refine ty 8 (.agg #[.int .i64 u.author,.slice a7 u.seen.length c7,.int .i64 u.kind,.int .i64 u.key,.int .i64 u.item]) ?_;refine ty 9 (.pointer (some ⟨g,0,none⟩)) ?_;refine ty 10 (.pointer (some ⟨g,0,none⟩)) ?_;refine ty 11 (.pointer (some ⟨g,1,none⟩)) ?_;refine ty 12 (.pointer (some ⟨g,1,none⟩)) ?_;refine ty 13 (.slice a1 d.st.clock.length c1) ?_;refine wr 14 fun K hK=>?_;go_simp;refine(zI _ _ u d.st.clock _ (UW.out _ (HB0.trans (hg3.mono (by have:=HSZ.out;omega)))) (HC.row.below hg3 (nlr _)) hfit).mono ?_;rintro e w4 ⟨rfl,hb4⟩;rw[HSK.out];have hg4:Zh W1 w4:=Zd hg3 hb4;refine hK.out _ _ (HK.out _ hg4) (fun hHeld4=>?_);clear hK K
   try simp only[Act.put,Zt,Zs,Zr]
   refine ty 15 (.bool b) ?_;refine wpAnyH_done (by kernel_rfl) ?_ _
   go_wp2_with fail
   go_meet
   exact⟨rfl,hg4⟩
  have hE':(E==0)=false:=by simp[hE]
  have hsk:b=false:=by rw[←HBB.out];unfold skipB;rw[HE.out];simp[hE]
  subst hsk;clear hE;refine wr 4 fun K hK=>?_;go_simp;refine(Yv _ d _ (HNO.below hg0 (nlr _))).mono ?_;rintro e w2 ⟨rfl,hb2⟩;have hg2:Zh W1 w2:=Zd hg0 hb2;refine hK.out _ _ (HK.out _ hg2) (fun hHeld2=>?_);clear hK K
  try simp only[Act.put,Zt,Zs,Zr]
  refine wr 5 fun K hK=>?_;go_simp;refine(xE _ u _ _ (UW.out _ (HB0.trans (hg2.mono (by have:=HSZ.out;omega))))).mono ?_;rintro e w3 ⟨rfl,hb3⟩;rw[HE.out];have hg3:Zh W1 w3:=Zd hg2 hb3;refine hK.out _ _ (HK.out _ hg3) (fun hHeld3=>?_);clear hK K
  try simp only[Act.put,Zt,Zs,Zr]
  refine ty 6 (.bool false) ?_;refine ty 7 (.bool false) ?_;refine ts 8 ?_;refine ts 9 ?_;refine ts 10 ?_;refine ts 11 ?_;refine ts 12 ?_;refine ts 13 ?_;refine ts 14 ?_;refine ty 15 (.bool false) ?_;refine wpAnyH_done (by kernel_rfl) ?_ _
  go_wp2_with fail
  go_meet
  exact⟨rfl,hg3⟩
 obtain⟨rfl,HGR⟩:=hcut;obtain⟨w4,rfl⟩:∃w4,w4=wc:=⟨wc,rfl⟩;have D4:=Za (HD.below HGR.out (nlr _));have V4:=Za (V0.below HGR.out (nlr _));have HB4:Hid (Below B w w4):=HB0.trans (HGR.mono (by have:=HSZ.out;omega));clear HK HNO HD V0 HX HC HB0
 cases b
 ·have hT:Qi d u=T:=by rw[←HT.out];unfold tuE;rw[HBB.out];simp
  have hY:playV d u=Y:=by rw[←HY.out];unfold tuV;rw[HBB.out];simp
  have HTT:=Za hT;have HYY:=Za hY;clear hT hY;obtain⟨v0,v1,v2,v3,v4⟩:=V4.c5
  go_wp2_with fail
  refine(play_node B g _ d u _ D4.out (fun w' hw'=>UW.out _ (HB4.trans hw'))).mono ?_;rintro e w5 ⟨rfl,hn5,hb5⟩;rw[HTT.out];rw[HYY.out]at hn5;have HN5:=Za hn5;have HB5:=Za (HB4.trans hb5);clear hn5 hb5 v0 v1 v2 v3 v4
  go_wp2_with fail
  go_ret
  exact⟨rfl,HN5.out,HB5.out⟩
 have hT:0=T:=by rw[←HT.out];unfold tuE;rw[HBB.out];simp
 have hY:d=Y:=by rw[←HY.out];unfold tuV;rw[HBB.out];simp
 subst hT;subst hY
 go_wp2_with fail
 go_ret
 exact⟨rfl,D4.out,HB4.out⟩
end Go.Proofs.YtfhecilhcofboaaGreat
/- node.takeState. -/
namespace Go.Proofs.YtfhecilhcofboaaGreat
open Go.RowKit

def tstV(d:NdS)(p:Pcl):NdS:=if tstE d p=0 then yL d p else d

set_option maxRecDepth 100000 in
set_option maxHeartbeats 4000000 in
theorem takeState_node(B g:Nat)(pv:Value)(d:NdS)(p:Pcl)(w:World)(hd:NdV w B g d)(hp:∀w',Below B w w'→IsPcl w' pv p)(hbl:d.base.length≤6)(hsm:∀u ∈ d.log,Small u)(hfew:d.log.length≤300):
  Calls Tryz.prog 48 #[.pointer (some ⟨g,0,none⟩),pv] w fun e w'=>e=.returned (.int .i64 (tstE d p))∧NdV w' B g (tstV d p)∧Below B w w':=by
 obtain⟨b1,e1,b2,e2,b3,e3,b4,e4,b5,e5,rfl,-,-,-,-⟩:=(hp w (Below.refl _ _)).form;have hbp:=bpl w (.cells #[.bool p.whole,.slice b1 p.st.clock.length e1,.slice b2 p.st.lives.length e2,.slice b3 p.st.tals.length e3,.slice b4 p.ups.length e4,.slice b5 p.clock.length e5] 35);have D0:=hd.below hbp (nlr _);have V0:=Za (Box.new w [.bool p.whole,.slice b1 p.st.clock.length e1,.slice b2 p.st.lives.length e2,.slice b3 p.st.tals.length e3,.slice b4 p.ups.length e4,.slice b5 p.clock.length e5] 35);have hgl:=hd.lt;have HB0:Hid (Below B w (w.alloc (.cells #[.bool p.whole,.slice b1 p.st.clock.length e1,.slice b2 p.st.lives.length e2,.slice b3 p.st.tals.length e3,.slice b4 p.ups.length e4,.slice b5 p.clock.length e5] 35))):=hbp.mono (by omega);have PW:=Za hp;obtain⟨W1,HW1⟩:∃W1,Hid (w.alloc (.cells #[.bool p.whole,.slice b1 p.st.clock.length e1,.slice b2 p.st.lives.length e2,.slice b3 p.st.tals.length e3,.slice b4 p.ups.length e4,.slice b5 p.clock.length e5] 35)=W1):=⟨_,rfl⟩;have hsz:W1.heap.size=w.heap.size+1:=by rw[←HW1.out,World.size_alloc]
 rw[HW1.out]at D0 V0 HB0;obtain⟨a1,c1,a2,c2,a3,c3,a4,c4,a5,c5,a6,c6,hbox,hst,-,-,-,-⟩:=D0.form;have HX:=Za hbox;have HD:=Za D0;have HST:=Za hst;have HSZ:=Za hsz;clear hp hd hbp hbox hst D0 hsz
 have HPS:Hid (∀w',Below B w w'→Jp w' (.agg #[.slice b1 p.st.clock.length e1,.slice b2 p.st.lives.length e2,.slice b3 p.st.tals.length e3]) p.st∧Row w' (.slice b1 p.st.clock.length e1) p.st.clock):=by
  intro w' hw';obtain⟨cv,lv,tv,uv,kv,he,hs,-,-⟩:=PW.out w' hw';simp only[Value.agg.injEq,Array.mk.injEq,List.cons.injEq,and_true]at he;obtain⟨-,rfl,rfl,rfl,-,-⟩:=he;refine⟨hs,?_⟩;obtain⟨cv',lv',tv',he,hc,-,-⟩:=hs;simp only[Value.agg.injEq,Array.mk.injEq,List.cons.injEq,and_true]at he;obtain⟨rfl,-,-⟩:=he;exact hc
 obtain⟨E,HE⟩:∃E,Hid (tstE d p=E):=⟨_,rfl⟩;obtain⟨Y,HY⟩:∃Y,Hid (tstV d p=Y):=⟨_,rfl⟩;rw[HE.out,HY.out]
 cases hw:p.whole
 ·have hE:0=E:=by rw[←HE.out];unfold tstE;rw[if_neg (by rw[hw];exact Bool.false_ne_true)]
  have hY:d=Y:=by rw[←HY.out];unfold tstV;rw[if_pos (by rw[HE.out,←hE])];unfold yL;rw[if_neg (by rw[hw];exact Bool.false_ne_true)]
  subst hE;subst hY;rw[hw]at V0 HW1;have v0:=V0.get 0 rfl;clear hw
  go_enter Tryz.func48,Tryz.ntmps48
  go_upto_region 1 with fail
  rw[HW1.out]
  go_wp2_with fail
  go_ret
  exact⟨rfl,HD.out,HB0.out⟩
 have hEq:xA d.st p.st=E:=by rw[←HE.out];unfold tstE;rw[if_pos hw]
 have HWH:=Za hw;rw[hw]at V0 HW1;have v0:=V0.get 0 rfl;have HK:=Za fun w' (hg:Zh W1 w')=>And.intro ((HX.below hg (nlr _)).get 1 rfl) (And.intro ((HX.below hg (nlr _)).get 2 rfl) (And.intro ((HX.below hg (nlr _)).get 3 rfl) (And.intro ((V0.below hg (nlr _)).get 1 rfl) (And.intro ((V0.below hg (nlr _)).get 2 rfl) ((V0.below hg (nlr _)).get 3 rfl)))));obtain⟨S,HS⟩:∃S,Hid (joinX d.st p.st=S):=⟨_,rfl⟩;obtain⟨Q,HQ⟩:∃Q,Hid (xA d.st p.st=Q):=⟨_,rfl⟩;rw[HQ.out]at hEq;have HEq:=Za hEq;clear hw hEq
 go_enter Tryz.func48,Tryz.ntmps48
 go_upto_region 1 with fail
 rw[HW1.out]
 go_upto_region 3 with fail
 clear v0
 go_cut [5,6] (fun c1 c2 wx=>∃gs x1 y1 x2 y2 x3 y3,c1=.pointer (some ⟨gs,0,none⟩)∧c2=.int .i64 Q∧Hid (Box wx gs [.slice x1 S.clock.length y1,.slice x2 S.lives.length y2,.slice x3 S.tals.length y3] 27)∧Hid (Yl wx W1.heap.size (.agg #[.slice x1 S.clock.length y1,.slice x2 S.lives.length y2,.slice x3 S.tals.length y3]) S)∧Hid (Zh W1 wx)∧Hid (W1.heap.size≤gs))
 case first=>
  refine rgn HK.out fun wd hg0 hHeld=>?_;refine ty 0 (.pointer (some ⟨g,0,none⟩)) ?_;refine ty 1 (.pointer (some ⟨g,0,none⟩)) ?_;refine ty 2 (.pointer (some ⟨g,1,none⟩)) ?_;refine ty 3 (.agg #[.slice a1 d.st.clock.length c1,.slice a2 d.st.lives.length c2,.slice a3 d.st.tals.length c3]) ?_;refine ty 4 (.pointer (some ⟨w.heap.size,1,none⟩)) ?_;refine ty 5 (.agg #[.slice b1 p.st.clock.length e1,.slice b2 p.st.lives.length e2,.slice b3 p.st.tals.length e3]) ?_;refine wpAnyH_ready (rs:=[6,10]) (by kernel_rfl) (by simp) ?_;refine rdc rfl (fun K hK=>?_) (rd1 rfl (fun K hK=>?_))
  ·go_simp;refine(join_state _ _ d.st p.st _ (HST.st.below hg0 (nlr _)) (HPS.out _ (HB0.trans (hg0.mono (by have:=HSZ.out;omega)))).1).mono ?_;rintro e w2 ⟨rv,rfl,ho2,hb2⟩;rw[HQ.out];rw[HS.out]at ho2;obtain⟨x1,y1,x2,y2,x3,y3,hrv⟩:=ho2.formW;subst hrv;have hg2:Zh W1 w2:=Zd hg0 hb2;refine hK.out _ _ (HK.out _ hg2) (fun hHeld2=>?_);clear hK K
   try simp only[Act.put,Zt,Zs,Zr]
   refine ty 7 (.tuple #[.agg #[.slice x1 S.clock.length y1,.slice x2 S.lives.length y2,.slice x3 S.tals.length y3],.int .i64 Q]) ?_;refine ty 8 (.agg #[.slice x1 S.clock.length y1,.slice x2 S.lives.length y2,.slice x3 S.tals.length y3]) ?_;refine ty 9 (.int .i64 Q) ?_;obtain⟨w3,hw3⟩:∃w3,Hid (w2.alloc (.cells #[.slice none 0 0,.slice none 0 0,.slice none 0 0] 27)=w3):=⟨_,rfl⟩;have hbp:Below w2.heap.size w2 w3:=by rw[←hw3.out];exact bpl w2 (.cells #[.slice none 0 0,.slice none 0 0,.slice none 0 0] 27)
   have bx:Box w3 w2.heap.size [.slice none 0 0,.slice none 0 0,.slice none 0 0] 27:=by rw[←hw3.out];exact Box.new w2 [.slice none 0 0,.slice none 0 0,.slice none 0 0] 27
   have hg3:Zh W1 w3:=Zd hg2 hbp;have hge:W1.heap.size≤w2.heap.size:=hg2.size;have ho3:=(ho2.base (C:=W1.heap.size) (by have:=hg0.size;omega)).below hbp (nlr _);refine wr 10 fun K hK=>?_;go_simp;rw[hw3.out];refine hK.out _ _ (HK.out _ hg3) (fun hHeld3=>?_);clear hK K
   try simp only[Act.put,Zt,Zs,Zr]
   have c0:=bx.get 0 rfl;have f0:=bx.free 0;have c1':=bx.get 1 rfl;have f1:=bx.free 1;have c2':=bx.get 2 rfl;have f2:=bx.free 2;have bs:=((bx.set 0 (.slice x1 S.clock.length y1)).set 1 (.slice x2 S.lives.length y2)).set 2 (.slice x3 S.tals.length y3);have os:=((ho3.setT bx (by decide) (by decide) (by decide) 0 (.slice x1 S.clock.length y1)).setT (bx.set 0 (.slice x1 S.clock.length y1)) (by decide) (by decide) (by decide) 1 (.slice x2 S.lives.length y2)).setT ((bx.set 0 (.slice x1 S.clock.length y1)).set 1 (.slice x2 S.lives.length y2)) (by decide) (by decide) (by decide) 2 (.slice x3 S.tals.length y3);have hgs:Zh W1 (((w3.setCell ⟨w2.heap.size,0,none⟩ (.slice x1 S.clock.length y1)).setCell ⟨w2.heap.size,1,none⟩ (.slice x2 S.lives.length y2)).setCell ⟨w2.heap.size,2,none⟩ (.slice x3 S.tals.length y3)):=((Below.setCell hg3 (p:=⟨w2.heap.size,0,none⟩) hge _).setCell (p:=⟨w2.heap.size,1,none⟩) hge _).setCell (p:=⟨w2.heap.size,2,none⟩) hge _;refine wr 11 fun K hK=>?_;go_simp;refine hK.out _ _ (HK.out _ hgs) (fun _=>?_);clear hK K c0 c1' c2' f0 f1 f2
   try simp only[Act.put,Zt,Zs,Zr]
   refine wr 12 fun K hK=>?_;go_simp;refine hK.out _ _ (HK.out _ hgs) (fun _=>?_);clear hK K
   try simp only[Act.put,Zt,Zs,Zr]
   refine wpAnyH_done (by kernel_rfl) ?_ _
   go_wp2_with fail
   go_meet
   exact⟨_,_,_,_,_,_,_,rfl,rfl,bs,os,hgs,hge⟩
  go_simp;obtain⟨w3,hw3⟩:∃w3,Hid (wd.alloc (.cells #[.slice none 0 0,.slice none 0 0,.slice none 0 0] 27)=w3):=⟨_,rfl⟩;have hbp:Below wd.heap.size wd w3:=by rw[←hw3.out];exact bpl wd (.cells #[.slice none 0 0,.slice none 0 0,.slice none 0 0] 27)
  have bx0:Box w3 wd.heap.size [.slice none 0 0,.slice none 0 0,.slice none 0 0] 27:=by rw[←hw3.out];exact Box.new wd [.slice none 0 0,.slice none 0 0,.slice none 0 0] 27
  have hg1:Zh W1 w3:=Zd hg0 hbp;have hge:W1.heap.size≤wd.heap.size:=hg0.size;rw[hw3.out];refine hK.out _ _ (HK.out _ hg1) (fun hHeld3=>?_);clear hK K
  try simp only[Act.put,Zt,Zs,Zr]
  refine wr 6 fun K hK=>?_;go_simp;refine(join_state _ _ d.st p.st _ (HST.st.below hg1 (nlr _)) (HPS.out _ (HB0.trans (hg1.mono (by have:=HSZ.out;omega)))).1).mono ?_;rintro e w2 ⟨rv,rfl,ho2,hb2⟩;rw[HQ.out];rw[HS.out]at ho2;obtain⟨x1,y1,x2,y2,x3,y3,hrv⟩:=ho2.formW;subst hrv;have hg3:Zh W1 w2:=Zd hg1 hb2;have bx:=bx0.below hb2 (nlr _);have ho3:=ho2.base (C:=W1.heap.size) (by have:=hg1.size;omega);refine hK.out _ _ (HK.out _ hg3) (fun hHeld2=>?_);clear hK K
  try simp only[Act.put,Zt,Zs,Zr]
  refine ty 7 (.tuple #[.agg #[.slice x1 S.clock.length y1,.slice x2 S.lives.length y2,.slice x3 S.tals.length y3],.int .i64 Q]) ?_;refine ty 8 (.agg #[.slice x1 S.clock.length y1,.slice x2 S.lives.length y2,.slice x3 S.tals.length y3]) ?_;refine ty 9 (.int .i64 Q) ?_;have c0:=bx.get 0 rfl;have f0:=bx.free 0;have c1':=bx.get 1 rfl;have f1:=bx.free 1;have c2':=bx.get 2 rfl;have f2:=bx.free 2;have bs:=((bx.set 0 (.slice x1 S.clock.length y1)).set 1 (.slice x2 S.lives.length y2)).set 2 (.slice x3 S.tals.length y3);have os:=((ho3.setT bx (by decide) (by decide) (by decide) 0 (.slice x1 S.clock.length y1)).setT (bx.set 0 (.slice x1 S.clock.length y1)) (by decide) (by decide) (by decide) 1 (.slice x2 S.lives.length y2)).setT ((bx.set 0 (.slice x1 S.clock.length y1)).set 1 (.slice x2 S.lives.length y2)) (by decide) (by decide) (by decide) 2 (.slice x3 S.tals.length y3);have hgs:Zh W1 (((w2.setCell ⟨wd.heap.size,0,none⟩ (.slice x1 S.clock.length y1)).setCell ⟨wd.heap.size,1,none⟩ (.slice x2 S.lives.length y2)).setCell ⟨wd.heap.size,2,none⟩ (.slice x3 S.tals.length y3)):=((Below.setCell hg3 (p:=⟨wd.heap.size,0,none⟩) hge _).setCell (p:=⟨wd.heap.size,1,none⟩) hge _).setCell (p:=⟨wd.heap.size,2,none⟩) hge _;refine wr 11 fun K hK=>?_;go_simp;refine hK.out _ _ (HK.out _ hgs) (fun _=>?_);clear hK K c0 c1' c2' f0 f1 f2
  try simp only[Act.put,Zt,Zs,Zr]
  refine wr 12 fun K hK=>?_;go_simp;refine hK.out _ _ (HK.out _ hgs) (fun _=>?_);clear hK K
  try simp only[Act.put,Zt,Zs,Zr]
  refine wpAnyH_done (by kernel_rfl) ?_ _
  go_wp2_with fail
  go_meet
  exact⟨_,_,_,_,_,_,_,rfl,rfl,bs,os,hgs,hge⟩
 obtain⟨gs,x1,y1,x2,y2,x3,y3,rfl,rfl,BX,OS,HGR,HGE⟩:=hcut;obtain⟨w4,rfl⟩:∃w4,w4=wc:=⟨wc,rfl⟩;have D4:=Za (HD.below HGR.out (nlr _));have X4:=Za (HX.below HGR.out (nlr _));have V4:=Za (V0.below HGR.out (nlr _));have HB4:Hid (Below B w w4):=HB0.trans (HGR.mono (by have:=HSZ.out;omega));have hsz:=HSZ.out;have hge:=HGE.out;have n1:¬(gs=g):=by omega
 have n2:¬(g=gs):=by omega
 have n3:¬(w.heap.size=g):=by omega
 have n4:¬(g=w.heap.size):=by omega
 clear HK HD HX V0 HST
 by_cases h2:Q=0
 ·have h2':(Q != 0)=false:=by simp[h2]
  have hE0:E=0:=by rw[←HEq.out];exact h2
  subst hE0;have hYd:Hid (Qp ⟨d.self,S,d.base,d.log,d.known⟩ p.st.clock=Y):=by unfold Hid;rw[←HY.out,←HS.out];unfold tstV;rw[if_pos HE.out];unfold yL;rw[if_pos HWH.out]
  have hcl:Hid (p.st.clock.length≤6):=by
   obtain⟨-,jb⟩:=joinE_zero.1 (by rw[HQ.out];exact h2);have:=Zm.1 jb.clock;unfold Hid;omega
  clear h2;obtain⟨z0,z1,z2⟩:=BX.c3;have g1:=X4.get 1 rfl;have g2:=X4.get 2 rfl;have g3:=X4.get 3 rfl;have f1:=X4.free 1;have f2:=X4.free 2;have f3:=X4.free 3;have v1:=V4.get 1 rfl;have D5:=D4.setSt (OS.base (C:=B) (by omega));have HB5:=((HB4.setCell (p:=⟨g,1,none⟩) hgl.2 (.slice x1 S.clock.length y1)).setCell (p:=⟨g,2,none⟩) hgl.2 (.slice x2 S.lives.length y2)).setCell (p:=⟨g,3,none⟩) hgl.2 (.slice x3 S.tals.length y3);have HD5:=Za D5;have HHB5:=Za HB5;clear D5 HB5
  go_wp2_with fail
  refine(forget_node B g _ ⟨d.self,S,d.base,d.log,d.known⟩ p.st.clock _ HD5.out (HPS.out _ HHB5.out).2 hcl.out hbl hsm hfew).mono ?_;rintro e w5 ⟨rfl,hn5,hb5⟩;rw[hYd.out]at hn5;have HN5:=Za hn5;have HB6:=Za (HHB5.trans hb5);clear hn5 hb5 z0 z1 z2 g1 g2 g3 f1 f2 f3 v1
  go_wp2_with fail
  go_ret
  exact⟨rfl,HN5.out,HB6.out⟩
 have h2':(Q != 0)=true:=by simp[h2]
 have hE0:Q=E:=HEq.out;have hYd:d=Y:=by rw[←HY.out];unfold tstV;rw[if_neg (by rw[HE.out,←hE0];exact h2)]
 subst hYd;subst hE0;clear h2
 go_wp2_with fail
 go_ret
 exact⟨rfl,D4.out,HB4.out⟩
end Go.Proofs.YtfhecilhcofboaaGreat
/- node.Take. -/
namespace Go.Proofs.YtfhecilhcofboaaGreat
open Go.RowKit

theorem drop_cons_of{α:Type}{l:List α}{k:Nat}{u:α}(h:l[k]? =some u):l.drop k=u::l.drop (k+1):=by
 obtain⟨h1,h2⟩:=List.getElem?_eq_some_iff.1 h;rw[List.drop_eq_getElem_cons h1,h2]
theorem tuV_zero{d:NdS}{u:Upd}(h:tuE d u=0):tuV d u=tuX d u:=by
 unfold tuV tuX
 split
 ·rfl
 next hs=>
 unfold tuE at h;rw[if_neg hs]at h;unfold playV;rw[if_pos h]

set_option maxRecDepth 100000 in
set_option maxHeartbeats 4000000 in
theorem take_node(v pv:Value)(d:NdS)(i:Int)(p:Pcl)(w:World)(h:Vp w v d)(hp:IsPcl w pv p):
  Calls Tryz.prog 15 #[v,.int .i64 i,pv] w fun e w'=>∃rv,e=.returned (.tuple #[rv,.int .i64 (Un d i p)])∧Yo w' (w.heap.size+3) rv (takeX d i p)∧Below w.heap.size w w':=by
 have hin:=h;have hpin:=hp;obtain⟨a1,c1,a2,c2,a3,c3,a4,c4,a5,c5,a6,c6,rfl,-,-,-,-,-⟩:=h.form;obtain⟨b1,e1,b2,e2,b3,e3,b4,e4,b5,e5,rfl,-,-,hul,hcl⟩:=hp.form;have hb3:=Below.plus (Below.plus (bpl w (.cells #[.int .i64 d.self,.slice a1 d.st.clock.length c1,.slice a2 d.st.lives.length c2,.slice a3 d.st.tals.length c3,.slice a4 d.base.length c4,.slice a5 d.log.length c5,.slice a6 d.known.length c6] 31)) (.cells #[.bool p.whole,.slice b1 p.st.clock.length e1,.slice b2 p.st.lives.length e2,.slice b3 p.st.tals.length e3,.slice b4 p.ups.length e4,.slice b5 p.clock.length e5] 35)) (.cells #[.int .i64 0,.slice none 0 0,.slice none 0 0,.slice none 0 0,.slice none 0 0,.slice none 0 0,.slice none 0 0] 31);have G0:=Za (((Box.new w [.int .i64 d.self,.slice a1 d.st.clock.length c1,.slice a2 d.st.lives.length c2,.slice a3 d.st.tals.length c3,.slice a4 d.base.length c4,.slice a5 d.log.length c5,.slice a6 d.known.length c6] 31).plus (.cells #[.bool p.whole,.slice b1 p.st.clock.length e1,.slice b2 p.st.lives.length e2,.slice b3 p.st.tals.length e3,.slice b4 p.ups.length e4,.slice b5 p.clock.length e5] 35)).plus (.cells #[.int .i64 0,.slice none 0 0,.slice none 0 0,.slice none 0 0,.slice none 0 0,.slice none 0 0,.slice none 0 0] 31));have V0:=Za ((Box.new (w.alloc (.cells #[.int .i64 d.self,.slice a1 d.st.clock.length c1,.slice a2 d.st.lives.length c2,.slice a3 d.st.tals.length c3,.slice a4 d.base.length c4,.slice a5 d.log.length c5,.slice a6 d.known.length c6] 31)) [.bool p.whole,.slice b1 p.st.clock.length e1,.slice b2 p.st.lives.length e2,.slice b3 p.st.tals.length e3,.slice b4 p.ups.length e4,.slice b5 p.clock.length e5] 35).plus (.cells #[.int .i64 0,.slice none 0 0,.slice none 0 0,.slice none 0 0,.slice none 0 0,.slice none 0 0,.slice none 0 0] 31));have R0:=Za (Box.new ((w.alloc (.cells #[.int .i64 d.self,.slice a1 d.st.clock.length c1,.slice a2 d.st.lives.length c2,.slice a3 d.st.tals.length c3,.slice a4 d.base.length c4,.slice a5 d.log.length c5,.slice a6 d.known.length c6] 31)).alloc (.cells #[.bool p.whole,.slice b1 p.st.clock.length e1,.slice b2 p.st.lives.length e2,.slice b3 p.st.tals.length e3,.slice b4 p.ups.length e4,.slice b5 p.clock.length e5] 35)) [.int .i64 0,.slice none 0 0,.slice none 0 0,.slice none 0 0,.slice none 0 0,.slice none 0 0,.slice none 0 0] 31);simp only[World.size_alloc]at V0 R0;have CW:=Za hcl;have UW:=Za hul;have PW:=Za hpin;have D0:=Za (hin.below hb3 (nlr _));have HB0:=Za hb3;clear h hin hp hpin hcl hul hb3;obtain⟨W1,HW1⟩:∃W1,Hid (((w.alloc (.cells #[.int .i64 d.self,.slice a1 d.st.clock.length c1,.slice a2 d.st.lives.length c2,.slice a3 d.st.tals.length c3,.slice a4 d.base.length c4,.slice a5 d.log.length c5,.slice a6 d.known.length c6] 31)).alloc (.cells #[.bool p.whole,.slice b1 p.st.clock.length e1,.slice b2 p.st.lives.length e2,.slice b3 p.st.tals.length e3,.slice b4 p.ups.length e4,.slice b5 p.clock.length e5] 35)).alloc (.cells #[.int .i64 0,.slice none 0 0,.slice none 0 0,.slice none 0 0,.slice none 0 0,.slice none 0 0,.slice none 0 0] 31)=W1):=⟨_,rfl⟩;have hsz:Hid (W1.heap.size=w.heap.size+1+1+1):=by unfold Hid;rw[←HW1.out,World.size_alloc,World.size_alloc,World.size_alloc]
 rw[HW1.out]at G0 V0 R0 D0 HB0;obtain⟨E,HE⟩:∃E,Hid (Un d i p=E):=⟨_,rfl⟩;obtain⟨X,HX⟩:∃X,Hid (takeX d i p=X):=⟨_,rfl⟩;obtain⟨N,HN⟩:∃N,Hid (Jj d i=N):=⟨_,rfl⟩;have HXB:Hid (¬E=0→X=Yu):=fun hne=>by rw[←HX.out];unfold takeX;rw[if_neg (by rw[HE.out];exact hne)]
 rw[HE.out,HX.out];obtain⟨g0,g1,g2,g3,g4,g5,g6⟩:=G0.c7
 go_enter Tryz.func15,Tryz.ntmps15
 go_upto_region 1 with fail
 rw[HW1.out]
 go_wp2_with fail
 refine(otherWrong_node _ d i _ D0.out).mono ?_;rintro e w2 ⟨rfl,hb2⟩;rw[HN.out];have G2:=Za (G0.below hb2 (nlr _));have V2:=Za (V0.below hb2 (nlr _));have R2:=Za (R0.below hb2 (nlr _));have D2:=Za (D0.below hb2 (nlr _));have HB2:=Za (Zb HB0.out hb2);have hs2:Hid (w.heap.size+3≤w2.heap.size):=by have:=hb2.size;have:=hsz.out;unfold Hid;omega
 clear G0 V0 R0 D0 HB0 hb2 g0 g1 g2 g3 g4 g5 g6
 by_cases hN:N=0
 ·have hN':(N != 0)=false:=by simp[hN]
  have hOz:Jj d i=0:=by rw[HN.out];exact hN
  obtain⟨hok,hi0,hi1,hino⟩:=xP.1 hOz;have HOK:=Za hok;have HI:=Za (And.intro hi0 hi1);have HF:=Za (yF (Vk.2 hok));obtain⟨C,HC⟩:∃C,Hid (Zn p.clock d.st.clock.length=C):=⟨_,rfl⟩;have HOZ:=Za hOz;clear hN hOz hok hi0 hi1 hino;have HK2:=Za fun w' (hg:Zh w2 w')=>And.intro ((V2.below hg (nlr _)).get 5 rfl) (G2.below hg (nlr _)).c7
  go_upto_region 4 with fail
  go_cut [9] (fun c wx=>c=.int .i64 C∧Hid (Zh w2 wx))
  case first=>
   refine rgn HK2.out fun wd hg0 hHeld=>?_;refine ty 0 (.pointer (some ⟨w.heap.size+1,5,none⟩)) ?_;refine ty 1 (.slice b5 p.clock.length e5) ?_;refine ty 2 (.agg #[.int .i64 d.self,.slice a1 d.st.clock.length c1,.slice a2 d.st.lives.length c2,.slice a3 d.st.tals.length c3,.slice a4 d.base.length c4,.slice a5 d.log.length c5,.slice a6 d.known.length c6]) ?_;refine wr 3 fun K hK=>?_;go_simp;refine(Yv _ d _ (D2.below hg0 (nlr _))).mono ?_;rintro e w3 ⟨rfl,hb3⟩;have hg3:Zh w2 w3:=Zd hg0 hb3;refine hK.out _ _ (HK2.out _ hg3) (fun hHeld2=>?_);clear hK K
   try simp only[Act.put,Zt,Zs,Zr]
   refine wr 4 fun K hK=>?_;go_simp;refine(Yk _ p.clock _ _ (CW.below (HB2.trans (hg3.mono (by have:=hs2.out;omega))) (nlr _))).mono ?_;rintro e w4 ⟨rfl,rfl⟩;rw[HC.out];refine hK.out _ _ (HK2.out _ hg3) (fun hHeld3=>?_);clear hK K
   try simp only[Act.put,Zt,Zs,Zr]
   refine wr 5 fun K hK=>?_;go_simp;refine hK.out _ _ (HK2.out _ hg3) (fun _=>?_);clear hK K
   try simp only[Act.put,Zt,Zs,Zr]
   refine wpAnyH_done (by kernel_rfl) ?_ _
   go_wp2_with fail
   go_meet
   exact⟨rfl,hg3⟩
  obtain⟨rfl,HGR⟩:=hcut;obtain⟨w3,rfl⟩:∃w3,w3=wc:=⟨wc,rfl⟩;have G3:=Za (G2.below HGR.out (nlr _));have V3:=Za (V2.below HGR.out (nlr _));have R3:=Za (R2.below HGR.out (nlr _));have D3:=Za (D2.below HGR.out (nlr _));have HB3:=Za (Zb HB2.out HGR.out);have hs3:Hid (w.heap.size+3≤w3.heap.size):=by have:=HGR.size;have:=hs2.out;unfold Hid;omega
  clear G2 V2 R2 D2 HB2 HGR HK2
  by_cases hC:C=0
  ·have hC':(C != 0)=false:=by simp[hC]
   have HCZ:Hid (Zn p.clock d.st.clock.length=0):=by unfold Hid;rw[HC.out];exact hC
   clear hC;obtain⟨g0,g1,g2,g3,g4,g5,g6⟩:=G3.c7
   go_wp2_with fail
   refine(copy_node _ d _ D3.out HF.out).mono ?_;rintro e w4 ⟨rv,rfl,ho4,hb4⟩;obtain⟨x1,y1,x2,y2,x3,y3,x4,y4,x5,y5,x6,y6,rfl⟩:=ho4.form;have N5:=NdV.new (ho4.base (C:=w3.heap.size) (by omega)) hb4.size;have hbp:=Zb hb4 (bpl w4 (.cells #[.int .i64 d.self,.slice x1 d.st.clock.length y1,.slice x2 d.st.lives.length y2,.slice x3 d.st.tals.length y3,.slice x4 d.base.length y4,.slice x5 d.log.length y5,.slice x6 d.known.length y6] 31));obtain⟨W5,HW5⟩:∃W5,Hid (w4.alloc (.cells #[.int .i64 d.self,.slice x1 d.st.clock.length y1,.slice x2 d.st.lives.length y2,.slice x3 d.st.tals.length y3,.slice x4 d.base.length y4,.slice x5 d.log.length y5,.slice x6 d.known.length y6] 31)=W5):=⟨_,rfl⟩;rw[HW5.out]at N5 hbp;have V5:=Za (V3.below hbp (nlr _));have R5:=Za (R3.below hbp (nlr _));have HB5:=Za (Zb HB3.out hbp);have HN5:=Za N5;clear g0 g1 g2 g3 g4 g5 g6 ho4 hb4 N5 hbp G3 V3 R3 D3 HB3;obtain⟨v0,v1,v2,v3,v4,v5⟩:=V5.c6;obtain⟨T,HT⟩:∃T,Hid (tstE d p=T):=⟨_,rfl⟩
   go_upto_region 8 with fail
   rw[HW5.out]
   go_wp2_with fail
   refine(takeState_node w3.heap.size w4.heap.size _ d p W5 HN5.out (fun w' hw'=>PW.below (HB5.trans (hw'.mono (by have:=hs3.out;omega))) (nlr _)) HF.base HF.small HF.few).mono ?_;rintro e w6 ⟨rfl,hn6,hb6⟩;rw[HT.out];have V6:=Za (V5.low hb6 (by have:=hs3.out;omega));have R6:=Za (R5.low hb6 (by have:=hs3.out;omega));have HB6:=Za (HB5.trans (hb6.mono (by have:=hs3.out;omega)));clear v0 v1 v2 v3 v4 v5 V5 R5 HB5 HN5 hb6
   by_cases hT:T=0
   ·have hT':(T != 0)=false:=by simp[hT]
    have hTz:tstE d p=0:=by rw[HT.out];exact hT
    have hVX:tstV d p=yL d p:=by unfold tstV;rw[if_pos hTz]
    obtain⟨hM0,-,-,hS0,hK0⟩:=HOK.toOkM.tst hTz;rw[hVX]at hn6;obtain⟨D0,HD0⟩:∃D0,Hid (yL d p=D0):=⟨_,rfl⟩;rw[HD0.out]at hn6 hM0 hS0 hK0;have HN6:=Za hn6;have HM0:=Za (And.intro hM0 (And.intro hS0 hK0));have HTZ:=Za hTz;have v4:=V6.get 4 rfl;have hul:=UW.len_le;clear hT hTz hVX hn6 hM0 hS0 hK0
    go_wp2_with fail
    clear v4
    go_loopw [42] (fun i wr=>∃(k:Nat) (Dk:NdS),k≤p.ups.length∧i=.int .i64 k∧Hid (NdV wr w3.heap.size w4.heap.size Dk)∧Hid (upsE D0 p.ups=upsE Dk (p.ups.drop k)∧yQ D0 p.ups=yQ Dk (p.ups.drop k))∧Hid (OkM d.st.clock.length Dk∧Dk.self=d.self∧Dk.known=d.known)∧Hid (Below w3.heap.size w6 wr)) (fun i _=>p.ups.length - (intOf i).toNat)
    case atStart=>exact⟨0,D0,Nat.zero_le _,rfl,HN6,Za ⟨rfl,rfl⟩,HM0,Za (Below.refl _ _)⟩
    obtain⟨k,Dk,hk,rfl,HNk,HUk,HMk,HBk⟩:=hrel;obtain⟨w20,rfl⟩:∃w20,w20=wr:=⟨wr,rfl⟩;have HBw:Hid (Below w.heap.size w w20):=HB6.trans (HBk.mono (by have:=hs3.out;omega));have V20:=Za (V6.low HBk.out (by have:=hs3.out;omega));have R20:=Za (R6.low HBk.out (by have:=hs3.out;omega))
    by_cases hlt:k<p.ups.length
    ·obtain⟨u,hu⟩:∃u,p.ups[k]? =some u:=⟨_,List.getElem?_eq_getElem hlt⟩;have hdr:p.ups.drop k=u::p.ups.drop (k+1):=drop_cons_of hu;obtain⟨b,off,a7,c7,hadr,p0,p1,p2,p3,p4,-,hUB⟩:=UW.at hu;have d0:=(HBw.cell (p:=⟨b,off+k*5,none⟩) (World.block_lt_of_cell? w _ p0)).trans p0;have d1:=(HBw.cell (p:=⟨b,off+k*5+1,none⟩) (World.block_lt_of_cell? w _ p1)).trans p1;have d2:=(HBw.cell (p:=⟨b,off+k*5+2,none⟩) (World.block_lt_of_cell? w _ p2)).trans p2;have d3:=(HBw.cell (p:=⟨b,off+k*5+3,none⟩) (World.block_lt_of_cell? w _ p3)).trans p3;have d4:=(HBw.cell (p:=⟨b,off+k*5+4,none⟩) (World.block_lt_of_cell? w _ p4)).trans p4;have HUB:=Za hUB;clear p0 p1 p2 p3 p4 hUB;subst hadr;have hlt':(k:Int)<(p.ups.length:Int):=by omega
     have hbp:=bpl w20 (.cells #[.int .i64 u.author,.slice a7 u.seen.length c7,.int .i64 u.kind,.int .i64 u.key,.int .i64 u.item] 33);obtain⟨W21,HW21⟩:∃W21,Hid (w20.alloc (.cells #[.int .i64 u.author,.slice a7 u.seen.length c7,.int .i64 u.kind,.int .i64 u.key,.int .i64 u.item] 33)=W21):=⟨_,rfl⟩;have B21:=Za (Box.new w20 [.int .i64 u.author,.slice a7 u.seen.length c7,.int .i64 u.kind,.int .i64 u.key,.int .i64 u.item] 33);rw[HW21.out]at hbp B21;have hgl:=HNk.lt;have HN21:=Za (HNk.below hbp (nlr _));have HB21:Hid (Below w3.heap.size w6 W21):=HBk.trans (hbp.mono (by omega));have HBw21:Hid (Below w.heap.size w W21):=HBw.trans (hbp.mono (by have:=hs3.out;omega));clear hbp;obtain⟨F,HFF⟩:∃F,Hid (tuE Dk u=F):=⟨_,rfl⟩
     go_upto_region 14 with fail
     rw[HW21.out];clear d0 d1 d2 d3 d4;obtain⟨u0,u1,u2,u3,u4⟩:=B21.c5
     go_wp2_with fail
     refine(takeUpdate_node w3.heap.size w4.heap.size _ Dk u W21 HN21.out (fun w' hw'=>HUB.below (HBw21.trans (hw'.mono (by have:=hs3.out;omega))) (nlr _))).mono ?_;rintro e w22 ⟨rfl,hn22,hb22⟩;rw[HFF.out];have HB22:Hid (Below w3.heap.size w6 w22):=HB21.trans hb22;have HBw22:Hid (Below w.heap.size w w22):=HBw21.trans (hb22.mono (by have:=hs3.out;omega));have R22:=Za (R6.low HB22.out (by have:=hs3.out;omega));clear u0 u1 u2 u3 u4 hb22 B21 HN21 HB21 HBw21 HBw V20 R20 HBk
     by_cases hF:F=0
     ·have hF':(F != 0)=false:=by simp[hF]
      have hz:tuE Dk u=0:=by rw[HFF.out];exact hF
      have hvx:tuV Dk u=tuX Dk u:=tuV_zero hz;rw[hvx]at hn22;obtain⟨m1,-,-,m2,m3,-,-⟩:=HMk.1.tu hz;have HM22:=Za (And.intro m1 (And.intro (m2.trans HMk.2.1) (m3.trans HMk.2.2)))
      have HU22:Hid (upsE D0 p.ups=upsE (tuX Dk u) (p.ups.drop (k+1))∧yQ D0 p.ups=yQ (tuX Dk u) (p.ups.drop (k+1))):=by
       obtain⟨q1,q2⟩:=HUk.out;rw[hdr]at q1 q2;refine⟨?_,q2⟩;rw[q1,upsE,if_pos hz]
      have HN22:=Za hn22;clear hF hz hvx hn22 m1 m2 m3 hdr hu HUk HMk
      go_wp2_with fail
      go_roundw
      case rel=>exact⟨k+1,_,by omega,by go_num,HN22,HU22,HM22,HB22⟩
      case measure=>simp[intOf];omega
     have hF':(F != 0)=true:=by simp[hF]
     have hE:F=E:=by
      have q1:=HUk.1;rw[hdr,upsE,HFF.out,if_neg hF]at q1;rw[←HE.out];unfold Un;rw[if_pos HOZ.out,if_pos HCZ.out,if_pos HTZ.out,HD0.out,q1,if_neg hF]
     have hX:=HXB.out (by rw[←hE];exact hF);subst hX;subst hE;clear hF hn22 HXB hdr hu;have r0:=R22.get 0 rfl;have s0:=R22.free 0;have r1:=R22.get 1 rfl;have s1:=R22.free 1;have r2:=R22.get 2 rfl;have s2:=R22.free 2;have r3:=R22.get 3 rfl;have s3:=R22.free 3;have r4:=R22.get 4 rfl;have s4:=R22.free 4;have r5:=R22.get 5 rfl;have s5:=R22.free 5;have r6:=R22.get 6 rfl;have s6:=R22.free 6
     go_wp2_with fail
     have hR:=((((((((R22.out).set 0 (.int .i64 0)).set 1 (.slice none 0 0)).set 2 (.slice none 0 0)).set 3 (.slice none 0 0)).set 4 (.slice none 0 0)).set 5 (.slice none 0 0)).set 6 (.slice none 0 0));have hV:=((((((((Yo.none w22 (w.heap.size+3)).away (g:=w.heap.size+1+1) (by omega) 0 (.int .i64 0)).away (g:=w.heap.size+1+1) (by omega) 1 (.slice none 0 0)).away (g:=w.heap.size+1+1) (by omega) 2 (.slice none 0 0)).away (g:=w.heap.size+1+1) (by omega) 3 (.slice none 0 0)).away (g:=w.heap.size+1+1) (by omega) 4 (.slice none 0 0)).away (g:=w.heap.size+1+1) (by omega) 5 (.slice none 0 0)).away (g:=w.heap.size+1+1) (by omega) 6 (.slice none 0 0));refine bodyPost_ret (Zc rfl _ _ (w.heap.size+1+1) 31 _ (0,0) _ rfl hR Tryz.underlying31 rfl Tryz.sizeNode) rfl ⟨_,rfl,hV,?_⟩
     exact((((((((HBw22.out).setCell (by show w.heap.size≤w.heap.size+1+1;omega) _).setCell (by show w.heap.size≤w.heap.size+1+1;omega) _).setCell (by show w.heap.size≤w.heap.size+1+1;omega) _).setCell (by show w.heap.size≤w.heap.size+1+1;omega) _).setCell (by show w.heap.size≤w.heap.size+1+1;omega) _).setCell (by show w.heap.size≤w.heap.size+1+1;omega) _).setCell (by show w.heap.size≤w.heap.size+1+1;omega) _)
    have hlt':¬(k:Int)<(p.ups.length:Int):=by omega
    have hdr:p.ups.drop k=[]:=List.drop_eq_nil_of_le (by omega);have hU:=HUk.out;rw[hdr]at hU;obtain⟨hU1,hU2⟩:=hU;have hU1':upsE D0 p.ups=0:=hU1;have hU2':yQ D0 p.ups=Dk:=hU2;obtain⟨q1,z1,q2,z2,q3,z3,q4,z4,q5,z5,q6,z6,hbx,-,hcl,-,-,hkn⟩:=HNk.form;have HBX:=Za hbx;have HCL:=Za hcl;have HKN:=Za hkn;have HUE:=Za hU1';have HUX:=Za hU2';have h1:=hbx.get 1 rfl;have v5:=V20.get 5 rfl;obtain⟨sb,HSB⟩:∃sb,Hid (Ju Dk.st.clock p.clock=sb):=⟨_,rfl⟩;clear hdr hU1 hU2 hU1' hU2' hbx hcl hkn HUk
    go_wp2_with fail
    refine(Jz _ _ Dk.st.clock p.clock _ HCL.row (CW.below HBw.out (nlr _))).mono ?_;rintro e w21 ⟨rfl,hb21⟩;rw[HSB.out];have hgl:=HNk.lt;have HN21:=Za (HNk.below hb21 (nlr _));have HX21:=Za (HBX.below hb21 (nlr _));have HK21:=Za (HKN.below hb21 (nlr _));have V21:=Za (V20.below hb21 (nlr _));have R21:=Za (R20.below hb21 (nlr _));have HBw21:=Za (Zb HBw.out hb21);have hs21:Hid (w20.heap.size≤w21.heap.size):=hb21.size;clear h1 v5 hb21 HBX HCL HKN V20 R20 HBw HNk
    cases hsb:sb
    ·have hE:8=E:=by
      rw[←HE.out];unfold Un;rw[if_pos HOZ.out,if_pos HCZ.out,if_pos HTZ.out,HD0.out,if_pos HUE.out,HUX.out,HSB.out,hsb]
      simp
     have hX:=HXB.out (by rw[←hE];decide);subst hX;subst hE;clear HXB;have r0:=R21.get 0 rfl;have s0:=R21.free 0;have r1:=R21.get 1 rfl;have s1:=R21.free 1;have r2:=R21.get 2 rfl;have s2:=R21.free 2;have r3:=R21.get 3 rfl;have s3:=R21.free 3;have r4:=R21.get 4 rfl;have s4:=R21.free 4;have r5:=R21.get 5 rfl;have s5:=R21.free 5;have r6:=R21.get 6 rfl;have s6:=R21.free 6
     go_wp2_with fail
     have hR:=((((((((R21.out).set 0 (.int .i64 0)).set 1 (.slice none 0 0)).set 2 (.slice none 0 0)).set 3 (.slice none 0 0)).set 4 (.slice none 0 0)).set 5 (.slice none 0 0)).set 6 (.slice none 0 0));have hV:=((((((((Yo.none w21 (w.heap.size+3)).away (g:=w.heap.size+1+1) (by omega) 0 (.int .i64 0)).away (g:=w.heap.size+1+1) (by omega) 1 (.slice none 0 0)).away (g:=w.heap.size+1+1) (by omega) 2 (.slice none 0 0)).away (g:=w.heap.size+1+1) (by omega) 3 (.slice none 0 0)).away (g:=w.heap.size+1+1) (by omega) 4 (.slice none 0 0)).away (g:=w.heap.size+1+1) (by omega) 5 (.slice none 0 0)).away (g:=w.heap.size+1+1) (by omega) 6 (.slice none 0 0));refine bodyPost_ret (Zc rfl _ _ (w.heap.size+1+1) 31 _ (0,0) _ rfl hR Tryz.underlying31 rfl Tryz.sizeNode) rfl ⟨_,rfl,hV,?_⟩
     exact((((((((HBw21.out).setCell (by show w.heap.size≤w.heap.size+1+1;omega) _).setCell (by show w.heap.size≤w.heap.size+1+1;omega) _).setCell (by show w.heap.size≤w.heap.size+1+1;omega) _).setCell (by show w.heap.size≤w.heap.size+1+1;omega) _).setCell (by show w.heap.size≤w.heap.size+1+1;omega) _).setCell (by show w.heap.size≤w.heap.size+1+1;omega) _).setCell (by show w.heap.size≤w.heap.size+1+1;omega) _)
    have hE:0=E:=by
     rw[←HE.out];unfold Un;rw[if_pos HOZ.out,if_pos HCZ.out,if_pos HTZ.out,HD0.out,if_pos HUE.out,HUX.out,HSB.out,hsb]
     simp
    have hX:selfN (tellN Dk i p.clock)=X:=by
     rw[←HX.out];unfold takeX;rw[if_pos (by rw[HE.out,←hE]),HD0.out,HUX.out]
    subst hE;have HXX:=Za hX;clear hX HXB hsb;obtain⟨j,hj⟩:∃j:Nat,i=j:=⟨i.toNat,by have:=HI.1;omega⟩;subst hj;have hjl:j<Dk.known.length:=by have:=HI.2;have:=HMk.1.kl;omega
    have hjl':(j:Int)<(Dk.known.length:Int):=by omega
    obtain⟨gk,hgk,-,hkB,hkl,hcell⟩:=HK21.block (by omega);subst hgk;have hjg:Dk.known[j]? =some (Dk.known.getD j []):=by rw[List.getD_eq_getElem?_getD,List.getElem?_eq_getElem hjl];rfl
    obtain⟨kc,HKC⟩:∃kc,Hid (Dk.known.getD j []=kc):=⟨_,rfl⟩;rw[HKC.out]at hjg;obtain⟨b',off',a8,c8,hadr,hkc,hkr⟩:=HK21.kn.at hjg;simp only[Option.some.injEq,Addr.mk.injEq,and_true]at hadr;obtain⟨rfl,rfl⟩:=hadr;simp only[Nat.zero_add]at hkc
    have hkc6:kc.length≤6:=by
     have:=(HMk.1.kg j hjl).1;rw[HKC.out]at this;have:=Zm.1 this;omega
    have hpc6:p.clock.length≤6:=by have:=Zm.1 HCZ.out;omega
    have HKR:=Za hkr;have HKCL:=Za hkc;have hkn':Dk.known.length≤9223372036854775807:=HK21.kn.len_le;clear hkr hkc hcell hjg;have HK3:Hid (∀w',Box w' w4.heap.size [.int .i64 Dk.self,.slice q1 Dk.st.clock.length z1,.slice q2 Dk.st.lives.length z2,.slice q3 Dk.st.tals.length z3,.slice q4 Dk.base.length z4,.slice q5 Dk.log.length z5,.slice (some ⟨gk,0,none⟩) Dk.known.length z6] 31→w'.cell? ⟨w.heap.size+1,5,none⟩=some (.slice b5 p.clock.length e5)→w'.cell? ⟨w4.heap.size,6,none⟩=some (.slice (some ⟨gk,0,none⟩) Dk.known.length z6)∧w'.cell? ⟨w.heap.size+1,5,none⟩=some (.slice b5 p.clock.length e5)):=fun w' hx hv=>⟨hx.get 6 rfl,hv⟩
    go_upto_region 20 with fail
    refine wp_region_held_drew (S:=fun w'=>w'.cell? ⟨w4.heap.size,6,none⟩=some (.slice (some ⟨gk,0,none⟩) Dk.known.length z6)∧w'.cell? ⟨w.heap.size+1,5,none⟩=some (.slice b5 p.clock.length e5)) (by kernel_rfl) (HK3.out _ HX21.drew (V21.drew.get 5 rfl)) (fun hHeld=>?_);obtain⟨wd,HWD⟩:∃wd,Hid (w21.drew=wd):=⟨_,rfl⟩;have hg0:Zh w21 wd:=by rw[←HWD.out];exact Zf (Zi w21)
    rw[HWD.out]at hHeld ⊢;refine ty 0 (.pointer (some ⟨w4.heap.size,6,none⟩)) ?_;refine ty 1 (.slice (some ⟨gk,0,none⟩) Dk.known.length z6) ?_;refine ty 2 (.int .i64 (j:Int)) ?_;refine ty 3 (.pointer (some ⟨w4.heap.size,6,none⟩)) ?_;refine ty 4 (.slice (some ⟨gk,0,none⟩) Dk.known.length z6) ?_;refine ty 5 (.int .i64 (j:Int)) ?_;refine ty 6 (.pointer (some ⟨gk,j,none⟩)) ?_;refine ty 8 (.pointer (some ⟨w.heap.size+1,5,none⟩)) ?_;refine ty 9 (.slice b5 p.clock.length e5) ?_;have hkc:=(hg0.cell (p:=⟨gk,j,none⟩) (World.block_lt_of_cell? w21 _ HKCL.out)).trans HKCL.out;refine wr 7 fun K hK=>?_;go_simp;refine hK.out _ _ hHeld (fun _=>?_);clear hK K hkc
    try simp only[Act.put,Zt,Zs,Zr]
    refine wr 10 fun K hK=>?_;go_simp;refine(join_clock _ _ kc p.clock _ (HKR.below hg0 (nlr _)) (CW.below (Zb HBw21.out hg0) (nlr _)) (by omega) (by omega)).mono ?_;rintro e w23 ⟨v23,rfl,ho23,hb23⟩;obtain⟨x23,y23,hv23,-⟩:=ho23.row;subst hv23;have hg3:Zh w21 w23:=Zd hg0 hb23;have X23:=HX21.below hg3 (nlr _);have V23:=V21.below hg3 (nlr _);have N23:=HN21.below hg3 (nlr _);have R23:=R21.below hg3 (nlr _);have HBw23:=Zb HBw21.out hg3;refine hK.out _ _ (HK3.out _ X23 (V23.get 5 rfl)) (fun hHeld2=>?_);clear hK K
    try simp only[Act.put,Zt,Zs,Zr]
    refine ty 11 (.pointer (some ⟨gk,j,none⟩)) ?_;obtain⟨gk',hgk',-,-,-,hcell2⟩:=(HK21.below hg3 (nlr _)).block (by omega);simp only[Option.some.injEq,Addr.mk.injEq,and_true]at hgk';subst hgk';obtain⟨v0,hc0,hf0⟩:=hcell2 j hjl;have N24:=N23.setKn X23 hjl (ho23.mono (C:=w3.heap.size) (by have:=hg0.size;have:=hs21.out;omega))
    have hne:w4.heap.size≠gk:=by
     intro he;obtain⟨qs,k1,-⟩:=HK21.out;rw[he]at HX21;exact Uv k1.1 HX21.out (by decide) rfl
    have hs3':=hs3.out;have X24:=X23.away (g':=gk) (i:=j) (v:=.slice x23 (joinC kc p.clock).length y23) hne;have V24:=V23.away (g':=gk) (i:=j) (v:=.slice x23 (joinC kc p.clock).length y23) (by omega);have R24:=R23.away (g':=gk) (i:=j) (v:=.slice x23 (joinC kc p.clock).length y23) (by omega);have HBw24:=HBw23.setCell (p:=⟨gk,j,none⟩) (show w.heap.size≤gk by omega) (.slice x23 (joinC kc p.clock).length y23);refine wr 12 fun K hK=>?_;go_simp;obtain⟨W24,HW24⟩:∃W24,Hid (w23.setCell ⟨gk,j,none⟩ (.slice x23 (joinC kc p.clock).length y23)=W24):=⟨_,rfl⟩;rw[HW24.out]at N24 X24 V24 R24 HBw24 ⊢;refine hK.out _ _ (HK3.out _ X24 (V24.get 5 rfl)) (fun hHeld3=>?_);clear hK K hc0 hf0
    try simp only[Act.put,Zt,Zs,Zr]
    refine wpAnyH_done (by kernel_rfl) ?_ _;have hDt:(⟨Dk.self,Dk.st,Dk.base,Dk.log,Dk.known.set j (joinC kc p.clock)⟩:NdS)=tellN Dk (j:Int) p.clock:=by unfold tellN;rw[←HKC.out];rfl
    rw[hDt]at N24;obtain⟨Z,HZ⟩:∃Z,Hid (tellN Dk (j:Int) p.clock=Z):=⟨_,rfl⟩;have hz1:Z.self=d.self:=by rw[←HZ.out];exact HMk.2.1
    have hz2:Z.known.length=Dk.known.length:=by rw[←HZ.out];unfold tellN;simp
    have hz3:Z.st.clock.length≤6:=by
     rw[←HZ.out];have:=Zm.1 HMk.1.st.clock
     show Dk.st.clock.length≤6
     omega
    have hz4:0≤Z.self∧Z.self<Z.known.length:=by
     rw[hz1,hz2];have h1:=HMk.1.s0;have h2:=HMk.1.s1;have h3:=HMk.1.kl;have h4:=HMk.2.1;omega
    rw[HZ.out]at N24;have HXX':Hid (selfN Z=X):=by unfold Hid;rw[←HZ.out];exact HXX.out
    have HN24:=Za N24;have HR24:=Za R24;have HHB24:=Za HBw24;have hz40:=hz4.1;have hz41:=hz4.2;clear N24 X24 V24 R24 HBw24 X23 V23 N23 R23 HBw23 ho23 hb23 hDt hcell2 hz1 hz2 hz4
    go_wp2_with fail
    refine(knowSelf_node w3.heap.size w4.heap.size Z _ HN24.out hz40 hz41 hz3).mono ?_;rintro e w25 ⟨rfl,hn25,hb25⟩;rw[HXX'.out]at hn25;obtain⟨m1,o1,m2,o2,m3,o3,m4,o4,m5,o5,m6,o6,hbx,-⟩:=hn25.form;have R25:=Za (HR24.low hb25 (by omega));have HB25:=Za (HHB24.trans (hb25.mono (by omega)));have HV25:=Za ((hn25.value hbx).base (C:=w.heap.size+3) hs3');obtain⟨zz0,zz1,zz2,zz3,zz4,zz5,zz6⟩:=hbx.c7;clear hn25 hb25 hbx;have r0:=R25.get 0 rfl;have s0:=R25.free 0;have r1:=R25.get 1 rfl;have s1:=R25.free 1;have r2:=R25.get 2 rfl;have s2:=R25.free 2;have r3:=R25.get 3 rfl;have s3:=R25.free 3;have r4:=R25.get 4 rfl;have s4:=R25.free 4;have r5:=R25.get 5 rfl;have s5:=R25.free 5;have r6:=R25.get 6 rfl;have s6:=R25.free 6
    go_wp2_with fail
    have hR:=((((((((R25.out).set 0 (.int .i64 X.self)).set 1 (.slice m1 X.st.clock.length o1)).set 2 (.slice m2 X.st.lives.length o2)).set 3 (.slice m3 X.st.tals.length o3)).set 4 (.slice m4 X.base.length o4)).set 5 (.slice m5 X.log.length o5)).set 6 (.slice m6 X.known.length o6));have hV:=((((((((HV25.out).away (g:=w.heap.size+1+1) (by omega) 0 (.int .i64 X.self)).away (g:=w.heap.size+1+1) (by omega) 1 (.slice m1 X.st.clock.length o1)).away (g:=w.heap.size+1+1) (by omega) 2 (.slice m2 X.st.lives.length o2)).away (g:=w.heap.size+1+1) (by omega) 3 (.slice m3 X.st.tals.length o3)).away (g:=w.heap.size+1+1) (by omega) 4 (.slice m4 X.base.length o4)).away (g:=w.heap.size+1+1) (by omega) 5 (.slice m5 X.log.length o5)).away (g:=w.heap.size+1+1) (by omega) 6 (.slice m6 X.known.length o6));refine bodyPost_ret (Zc rfl _ _ (w.heap.size+1+1) 31 _ (0,0) _ rfl hR Tryz.underlying31 rfl Tryz.sizeNode) rfl ⟨_,rfl,hV,?_⟩
    exact((((((((HB25.out).setCell (by show w.heap.size≤w.heap.size+1+1;omega) _).setCell (by show w.heap.size≤w.heap.size+1+1;omega) _).setCell (by show w.heap.size≤w.heap.size+1+1;omega) _).setCell (by show w.heap.size≤w.heap.size+1+1;omega) _).setCell (by show w.heap.size≤w.heap.size+1+1;omega) _).setCell (by show w.heap.size≤w.heap.size+1+1;omega) _).setCell (by show w.heap.size≤w.heap.size+1+1;omega) _)
   have hT':(T != 0)=true:=by simp[hT]
   have hE:T=E:=by
    rw[←HE.out];unfold Un;rw[if_pos HOZ.out,if_pos HCZ.out,if_neg (by rw[HT.out];exact hT),HT.out]
   have hX:=HXB.out (by rw[←hE];exact hT);subst hX;subst hE;clear hT hn6 HXB;have r0:=R6.get 0 rfl;have s0:=R6.free 0;have r1:=R6.get 1 rfl;have s1:=R6.free 1;have r2:=R6.get 2 rfl;have s2:=R6.free 2;have r3:=R6.get 3 rfl;have s3:=R6.free 3;have r4:=R6.get 4 rfl;have s4:=R6.free 4;have r5:=R6.get 5 rfl;have s5:=R6.free 5;have r6:=R6.get 6 rfl;have s6:=R6.free 6
   go_wp2_with fail
   have hR:=((((((((R6.out).set 0 (.int .i64 0)).set 1 (.slice none 0 0)).set 2 (.slice none 0 0)).set 3 (.slice none 0 0)).set 4 (.slice none 0 0)).set 5 (.slice none 0 0)).set 6 (.slice none 0 0));have hV:=((((((((Yo.none w6 (w.heap.size+3)).away (g:=w.heap.size+1+1) (by omega) 0 (.int .i64 0)).away (g:=w.heap.size+1+1) (by omega) 1 (.slice none 0 0)).away (g:=w.heap.size+1+1) (by omega) 2 (.slice none 0 0)).away (g:=w.heap.size+1+1) (by omega) 3 (.slice none 0 0)).away (g:=w.heap.size+1+1) (by omega) 4 (.slice none 0 0)).away (g:=w.heap.size+1+1) (by omega) 5 (.slice none 0 0)).away (g:=w.heap.size+1+1) (by omega) 6 (.slice none 0 0));refine bodyPost_ret (Zc rfl _ _ (w.heap.size+1+1) 31 _ (0,0) _ rfl hR Tryz.underlying31 rfl Tryz.sizeNode) rfl ⟨_,rfl,hV,?_⟩
   exact((((((((HB6.out).setCell (by show w.heap.size≤w.heap.size+1+1;omega) _).setCell (by show w.heap.size≤w.heap.size+1+1;omega) _).setCell (by show w.heap.size≤w.heap.size+1+1;omega) _).setCell (by show w.heap.size≤w.heap.size+1+1;omega) _).setCell (by show w.heap.size≤w.heap.size+1+1;omega) _).setCell (by show w.heap.size≤w.heap.size+1+1;omega) _).setCell (by show w.heap.size≤w.heap.size+1+1;omega) _)
  have hC':(C != 0)=true:=by simp[hC]
  have hE:C=E:=by rw[←HE.out,←HC.out];unfold Un;rw[if_pos HOZ.out,if_neg (by rw[HC.out];exact hC)]
  have hX:=HXB.out (by rw[←hE];exact hC);subst hX;subst hE;clear hC HXB;have r0:=R3.get 0 rfl;have s0:=R3.free 0;have r1:=R3.get 1 rfl;have s1:=R3.free 1;have r2:=R3.get 2 rfl;have s2:=R3.free 2;have r3:=R3.get 3 rfl;have s3:=R3.free 3;have r4:=R3.get 4 rfl;have s4:=R3.free 4;have r5:=R3.get 5 rfl;have s5:=R3.free 5;have r6:=R3.get 6 rfl;have s6:=R3.free 6
  go_wp2_with fail
  have hR:=((((((((R3.out).set 0 (.int .i64 0)).set 1 (.slice none 0 0)).set 2 (.slice none 0 0)).set 3 (.slice none 0 0)).set 4 (.slice none 0 0)).set 5 (.slice none 0 0)).set 6 (.slice none 0 0));have hV:=((((((((Yo.none w3 (w.heap.size+3)).away (g:=w.heap.size+1+1) (by omega) 0 (.int .i64 0)).away (g:=w.heap.size+1+1) (by omega) 1 (.slice none 0 0)).away (g:=w.heap.size+1+1) (by omega) 2 (.slice none 0 0)).away (g:=w.heap.size+1+1) (by omega) 3 (.slice none 0 0)).away (g:=w.heap.size+1+1) (by omega) 4 (.slice none 0 0)).away (g:=w.heap.size+1+1) (by omega) 5 (.slice none 0 0)).away (g:=w.heap.size+1+1) (by omega) 6 (.slice none 0 0));refine bodyPost_ret (Zc rfl _ _ (w.heap.size+1+1) 31 _ (0,0) _ rfl hR Tryz.underlying31 rfl Tryz.sizeNode) rfl ⟨_,rfl,hV,?_⟩
  exact((((((((HB3.out).setCell (by show w.heap.size≤w.heap.size+1+1;omega) _).setCell (by show w.heap.size≤w.heap.size+1+1;omega) _).setCell (by show w.heap.size≤w.heap.size+1+1;omega) _).setCell (by show w.heap.size≤w.heap.size+1+1;omega) _).setCell (by show w.heap.size≤w.heap.size+1+1;omega) _).setCell (by show w.heap.size≤w.heap.size+1+1;omega) _).setCell (by show w.heap.size≤w.heap.size+1+1;omega) _)
 have hN':(N != 0)=true:=by simp[hN]
 have hE:N=E:=by rw[←HE.out,←HN.out];unfold Un;rw[if_neg (by rw[HN.out];exact hN)]
 have hX:=HXB.out (by rw[←hE];exact hN);subst hX;subst hE;have r0:=R2.get 0 rfl;have s0:=R2.free 0;have r1:=R2.get 1 rfl;have s1:=R2.free 1;have r2:=R2.get 2 rfl;have s2:=R2.free 2;have r3:=R2.get 3 rfl;have s3:=R2.free 3;have r4:=R2.get 4 rfl;have s4:=R2.free 4;have r5:=R2.get 5 rfl;have s5:=R2.free 5;have r6:=R2.get 6 rfl;have s6:=R2.free 6;clear hN HXB
 go_wp2_with fail
 have hR:=(((((((R2.out).set 0 (.int .i64 0)).set 1 (.slice none 0 0)).set 2 (.slice none 0 0)).set 3 (.slice none 0 0)).set 4 (.slice none 0 0)).set 5 (.slice none 0 0)).set 6 (.slice none 0 0);have hV:=((((((((Yo.none w2 (w.heap.size+3))).away (g:=w.heap.size+1+1) (by omega) 0 (.int .i64 0)).away (g:=w.heap.size+1+1) (by omega) 1 (.slice none 0 0)).away (g:=w.heap.size+1+1) (by omega) 2 (.slice none 0 0)).away (g:=w.heap.size+1+1) (by omega) 3 (.slice none 0 0)).away (g:=w.heap.size+1+1) (by omega) 4 (.slice none 0 0)).away (g:=w.heap.size+1+1) (by omega) 5 (.slice none 0 0)).away (g:=w.heap.size+1+1) (by omega) 6 (.slice none 0 0);refine bodyPost_ret (Zc rfl _ _ (w.heap.size+1+1) 31 _ (0,0) _ rfl hR Tryz.underlying31 rfl Tryz.sizeNode) rfl ⟨_,rfl,hV,?_⟩
 exact(((((((HB2.out).setCell (by show w.heap.size≤w.heap.size+1+1;omega) _).setCell (by show w.heap.size≤w.heap.size+1+1;omega) _).setCell (by show w.heap.size≤w.heap.size+1+1;omega) _).setCell (by show w.heap.size≤w.heap.size+1+1;omega) _).setCell (by show w.heap.size≤w.heap.size+1+1;omega) _).setCell (by show w.heap.size≤w.heap.size+1+1;omega) _).setCell (by show w.heap.size≤w.heap.size+1+1;omega) _
end Go.Proofs.YtfhecilhcofboaaGreat
/- node.Send. -/
namespace Go.Proofs.YtfhecilhcofboaaGreat
open Go.RowKit

theorem Tryz.sizeParcel:(Tryz.prog.info? 35).map (·.size)=some 6:=by kernel_rfl

set_option maxRecDepth 100000 in
set_option maxHeartbeats 4000000 in
theorem send_node(v:Value)(d:NdS)(i:Int)(w:World)(h:Vp w v d):
  Calls Tryz.prog 12 #[v,.int .i64 i] w fun e w'=>∃rv,e=.returned (.tuple #[rv,.int .i64 (Jj d i)])∧Uq w' (w.heap.size+2) rv (sendX d i)∧Below w.heap.size w w':=by
 have hin:=h;obtain⟨a1,c1,a2,c2,a3,c3,a4,c4,a5,c5,a6,c6,rfl,hst,hcl,hbs,hlg,hkn⟩:=h.form;have hb3:=Below.plus (bpl w (.cells #[.int .i64 d.self,.slice a1 d.st.clock.length c1,.slice a2 d.st.lives.length c2,.slice a3 d.st.tals.length c3,.slice a4 d.base.length c4,.slice a5 d.log.length c5,.slice a6 d.known.length c6] 31)) (.cells #[.bool false,.slice none 0 0,.slice none 0 0,.slice none 0 0,.slice none 0 0,.slice none 0 0] 35);have G0:=Za ((Box.new w [.int .i64 d.self,.slice a1 d.st.clock.length c1,.slice a2 d.st.lives.length c2,.slice a3 d.st.tals.length c3,.slice a4 d.base.length c4,.slice a5 d.log.length c5,.slice a6 d.known.length c6] 31).plus (.cells #[.bool false,.slice none 0 0,.slice none 0 0,.slice none 0 0,.slice none 0 0,.slice none 0 0] 35));have R0:=Za (Box.new (w.alloc (.cells #[.int .i64 d.self,.slice a1 d.st.clock.length c1,.slice a2 d.st.lives.length c2,.slice a3 d.st.tals.length c3,.slice a4 d.base.length c4,.slice a5 d.log.length c5,.slice a6 d.known.length c6] 31)) [.bool false,.slice none 0 0,.slice none 0 0,.slice none 0 0,.slice none 0 0,.slice none 0 0] 35);simp only[World.size_alloc]at R0;have SW:=Za hst;have CW:=Za hcl;have BW:=Za hbs;have LW:=Za hlg;have KW:=Za hkn;have D0:=Za (hin.below hb3 (nlr _));have HB0:=Za hb3;clear h hin hst hcl hbs hlg hkn hb3;obtain⟨W1,HW1⟩:∃W1,Hid ((w.alloc (.cells #[.int .i64 d.self,.slice a1 d.st.clock.length c1,.slice a2 d.st.lives.length c2,.slice a3 d.st.tals.length c3,.slice a4 d.base.length c4,.slice a5 d.log.length c5,.slice a6 d.known.length c6] 31)).alloc (.cells #[.bool false,.slice none 0 0,.slice none 0 0,.slice none 0 0,.slice none 0 0,.slice none 0 0] 35)=W1):=⟨_,rfl⟩;have hsz:Hid (W1.heap.size=w.heap.size+1+1):=by unfold Hid;rw[←HW1.out,World.size_alloc,World.size_alloc]
 rw[HW1.out]at G0 R0 D0 HB0;obtain⟨N,HN⟩:∃N,Hid (Jj d i=N):=⟨_,rfl⟩;obtain⟨X,HX⟩:∃X,Hid (sendX d i=X):=⟨_,rfl⟩;rw[HN.out,HX.out];obtain⟨g0,g1,g2,g3,g4,g5,g6⟩:=G0.c7
 go_enter Tryz.func12,Tryz.ntmps12
 go_upto_region 1 with fail
 rw[HW1.out]
 go_wp2_with fail
 refine(otherWrong_node _ d i _ D0.out).mono ?_;rintro e w2 ⟨rfl,hb2⟩;rw[HN.out];have G2:=Za (G0.below hb2 (nlr _));have R2:=Za (R0.below hb2 (nlr _));have HB2:=Za (Zb HB0.out hb2);have hs2:Hid (w.heap.size+2≤w2.heap.size):=by have:=hb2.size;have:=hsz.out;unfold Hid;omega
 clear G0 R0 D0 HB0 hb2 g0 g1 g2 g3 g4 g5 g6
 by_cases hN:N=0
 ·have hN':(N != 0)=false:=by simp[hN]
  have hOz:Jj d i=0:=by rw[HN.out];exact hN
  obtain⟨hok,hi0,hi1,-⟩:=xP.1 hOz;have HOZ:=Za hOz;have HF:=Za (yF (Vk.2 hok));obtain⟨j,hj⟩:∃j:Nat,i=j:=⟨i.toNat,by omega⟩;subst hj;have hjl:j<d.known.length:=by have:=hok.kl;omega
  have hjl':(j:Int)<(d.known.length:Int):=by omega
  have hjg:d.known[j]? =some (d.known.getD j []):=by rw[List.getD_eq_getElem?_getD,List.getElem?_eq_getElem hjl];rfl
  obtain⟨kc,HKC⟩:∃kc,Hid (d.known.getD j []=kc):=⟨_,rfl⟩;rw[HKC.out]at hjg;obtain⟨b,off,a8,c8,hadr,hkc,hkr⟩:=KW.at hjg;subst hadr;have KRW:=Za hkr;have KCW:=Za hkc;have hkl:=KW.len_le
  have HX2:Hid ((if Ju kc d.base=true then(⟨false,⟨[],[],[]⟩,Yc d.log kc,d.st.clock⟩:Pcl)else⟨true,d.st,[],d.st.clock⟩)=X):=by
   unfold Hid;rw[←HX.out];unfold sendX;rw[if_pos hOz,←HKC.out];rfl
  have HN0:=Za hN;have hcl6:=HF.clock;clear hN hOz hok hi0 hi1 hjg hkc hkr;have g1:=G2.get 1 rfl
  go_wp2_with fail
  refine(Od _ d.st.clock _ (CW.below HB2.out (nlr _)) (by omega)).mono ?_;rintro e w3 ⟨v3,rfl,ho3,hb3⟩;obtain⟨x3,y3,hv3,-⟩:=ho3.row;subst hv3;have hbp:=bpl w3 (.cells #[.bool false,.slice none 0 0,.slice none 0 0,.slice none 0 0,.slice none 0 0,.slice x3 d.st.clock.length y3] 35);have hb4:=Zb hb3 hbp;have G4:=Za (G2.below hb4 (nlr _));have R4:=Za (R2.below hb4 (nlr _));have HB4:=Za (Zb HB2.out hb4);have O4:=Za ((ho3.mono (C:=w.heap.size+2) hs2.out).below hbp (nlr _));have P4:=Za (Box.new w3 [.bool false,.slice none 0 0,.slice none 0 0,.slice none 0 0,.slice none 0 0,.slice x3 d.st.clock.length y3] 35);have hs4:Hid (w.heap.size+2≤w3.heap.size):=by have:=hb3.size;have:=hs2.out;unfold Hid;omega
  obtain⟨W4,HW4⟩:∃W4,Hid (w3.alloc (.cells #[.bool false,.slice none 0 0,.slice none 0 0,.slice none 0 0,.slice none 0 0,.slice x3 d.st.clock.length y3] 35)=W4):=⟨_,rfl⟩;rw[HW4.out]at G4 R4 HB4 O4 P4;clear G2 R2 HB2 g1 ho3 hb3 hbp hb4;have HK4:=Za fun w' (hg:Zh W4 w')=>And.intro ((G4.below hg (nlr _)).get 6 rfl) (And.intro (((Zb HB4.out hg).cell (p:=⟨b,off+j,none⟩) (World.block_lt_of_cell? w _ KCW.out)).trans KCW.out) (And.intro ((G4.below hg (nlr _)).get 4 rfl) ((G4.below hg (nlr _)).get 5 rfl)));obtain⟨sb,HSB⟩:∃sb,Hid (Ju kc d.base=sb):=⟨_,rfl⟩
  go_upto_region 5 with fail
  rw[HW4.out]
  go_cut [27] (fun c wx=>c=.bool sb∧Hid (Zh W4 wx))
  case first=>
   refine rgn HK4.out fun wd hg0 hHeld=>?_;refine ty 0 (.pointer (some ⟨w.heap.size,6,none⟩)) ?_;refine ty 1 (.slice (some ⟨b,off,none⟩) d.known.length c6) ?_;refine ty 2 (.int .i64 (j:Int)) ?_;refine ty 3 (.pointer (some ⟨b,off+j,none⟩)) ?_;refine ty 4 (.slice a8 kc.length c8) ?_;refine ty 5 (.pointer (some ⟨w.heap.size,4,none⟩)) ?_;refine ty 6 (.slice a4 d.base.length c4) ?_;refine wr 7 fun K hK=>?_;go_simp;refine(Jz _ _ kc d.base _ (KRW.below (Zb HB4.out hg0) (nlr _)) (BW.below (Zb HB4.out hg0) (nlr _))).mono ?_;rintro e w5 ⟨rfl,hb5⟩;rw[HSB.out];have hg5:Zh W4 w5:=Zd hg0 hb5;refine hK.out _ _ (HK4.out _ hg5) (fun _=>?_);clear hK K
   try simp only[Act.put,Zt,Zs,Zr]
   refine wpAnyH_done (by kernel_rfl) ?_ _
   go_wp2_with fail
   go_meet
   exact⟨rfl,hg5⟩
  obtain⟨rfl,HGR⟩:=hcut;obtain⟨w5,rfl⟩:∃w5,w5=wc:=⟨wc,rfl⟩;have G5:=Za (G4.below HGR.out (nlr _));have P5:=Za (P4.below HGR.out (nlr _));have O5:=Za (O4.below HGR.out (nlr _));have R5:=Za (R4.below HGR.out (nlr _));have HB5:=Za (Zb HB4.out HGR.out);have HK5:Hid (∀w',Zh w5 w'→w'.cell? ⟨w.heap.size,6,none⟩=some (.slice (some ⟨b,off,none⟩) d.known.length c6)∧w'.cell? ⟨b,off+j,none⟩=some (.slice a8 kc.length c8)∧w'.cell? ⟨w.heap.size,4,none⟩=some (.slice a4 d.base.length c4)∧w'.cell? ⟨w.heap.size,5,none⟩=some (.slice a5 d.log.length c5)):=fun w' hg=>HK4.out w' (Zd HGR.out hg);have hs5:Hid (w3.heap.size<w5.heap.size):=P5.lt;clear G4 P4 O4 R4 HB4 HGR HK4;have hs4':=hs4.out;rw[HSB.out]at HX2
  cases sb
  ·have hX:(⟨true,d.st,[],d.st.clock⟩:Pcl)=X:=HX2.out;subst hX;have g1:=G5.get 1 rfl;have g2:=G5.get 2 rfl;have g3:=G5.get 3 rfl
   go_wp2_with fail
   refine(copy_state _ d.st _ (SW.below HB5.out (nlr _)) (by omega) HF.lives HF.tals).mono ?_;rintro e w6 ⟨v6,rfl,ho6,hb6⟩;obtain⟨x1,y1,x2,y2,x4,y4,hv6⟩:=ho6.formW;subst hv6;have P6:=P5.below hb6 (nlr _);have O6:=O5.below hb6 (nlr _);have S6:=ho6.base (C:=w.heap.size+2) (by have:=hs5.out;omega);have R6:=R5.below hb6 (nlr _);have HB6:=Zb HB5.out hb6;obtain⟨p0,p1,p2,p3⟩:=P6.c4;have f0:=P6.free 0;have f1:=P6.free 1;have f2:=P6.free 2;have f3:=P6.free 3;have P7:=P6.set 0 (.bool true);have O7:=O6.setT P6 (by decide) 0 (.bool true);have S7:=S6.setT P6 (by decide) (by decide) (by decide) 0 (.bool true);have R7:=R6.away (g':=w3.heap.size) (i:=0) (v:=.bool true) (by omega);have HB7:=HB6.setCell (p:=⟨w3.heap.size,0,none⟩) (show w.heap.size≤w3.heap.size by omega) (.bool true);have P8:=P7.set 1 (.slice x1 d.st.clock.length y1);have O8:=O7.setT P7 (by decide) 1 (.slice x1 d.st.clock.length y1);have S8:=S7.setT P7 (by decide) (by decide) (by decide) 1 (.slice x1 d.st.clock.length y1);have R8:=R7.away (g':=w3.heap.size) (i:=1) (v:=.slice x1 d.st.clock.length y1) (by omega);have HB8:=HB7.setCell (p:=⟨w3.heap.size,1,none⟩) (show w.heap.size≤w3.heap.size by omega) (.slice x1 d.st.clock.length y1);have P9:=P8.set 2 (.slice x2 d.st.lives.length y2);have O9:=O8.setT P8 (by decide) 2 (.slice x2 d.st.lives.length y2);have S9:=S8.setT P8 (by decide) (by decide) (by decide) 2 (.slice x2 d.st.lives.length y2);have R9:=R8.away (g':=w3.heap.size) (i:=2) (v:=.slice x2 d.st.lives.length y2) (by omega);have HB9:=HB8.setCell (p:=⟨w3.heap.size,2,none⟩) (show w.heap.size≤w3.heap.size by omega) (.slice x2 d.st.lives.length y2);have P10:=P9.set 3 (.slice x4 d.st.tals.length y4);have O10:=O9.setT P9 (by decide) 3 (.slice x4 d.st.tals.length y4);have S10:=S9.setT P9 (by decide) (by decide) (by decide) 3 (.slice x4 d.st.tals.length y4);have R10:=R9.away (g':=w3.heap.size) (i:=3) (v:=.slice x4 d.st.tals.length y4) (by omega);have HB10:=HB9.setCell (p:=⟨w3.heap.size,3,none⟩) (show w.heap.size≤w3.heap.size by omega) (.slice x4 d.st.tals.length y4);obtain⟨W10,HW10⟩:∃W10,Hid ((((w6.setCell ⟨w3.heap.size,0,none⟩ (.bool true)).setCell ⟨w3.heap.size,1,none⟩ (.slice x1 d.st.clock.length y1)).setCell ⟨w3.heap.size,2,none⟩ (.slice x2 d.st.lives.length y2)).setCell ⟨w3.heap.size,3,none⟩ (.slice x4 d.st.tals.length y4)=W10):=⟨_,rfl⟩;rw[HW10.out]at P10 O10 S10 R10 HB10;have HP:=Za P10;have HO:=Za O10;have HS:=Za S10;have HR:=Za R10;have HH:=Za HB10;clear P6 P7 P8 P9 P10 O6 O7 O8 O9 O10 S6 S7 S8 S9 S10 R6 R7 R8 R9 R10 HB6 HB7 HB8 HB9 HB10 ho6 hb6
   go_upto_region 8 with fail
   rw[HW10.out];clear p0 p1 p2 p3 f0 f1 f2 f3 g1 g2 g3;have HV:Hid (Uq W10 (w.heap.size+2) (.agg #[.bool true,.slice x1 d.st.clock.length y1,.slice x2 d.st.lives.length y2,.slice x4 d.st.tals.length y4,.slice none 0 0,.slice x3 d.st.clock.length y3]) ⟨true,d.st,[],d.st.clock⟩):=⟨_,_,_,_,_,rfl,HS.out,Xx.nil _ _,HO.out⟩;obtain⟨q0,q1,q2,q3,q4,q5⟩:=HP.c6;have hN0:=HN0.out;subst hN0;have r0:=HR.get 0 rfl;have s0:=HR.free 0;have r1:=HR.get 1 rfl;have s1:=HR.free 1;have r2:=HR.get 2 rfl;have s2:=HR.free 2;have r3:=HR.get 3 rfl;have s3:=HR.free 3;have r4:=HR.get 4 rfl;have s4:=HR.free 4;have r5:=HR.get 5 rfl;have s5:=HR.free 5
   go_wp2_with fail
   have hR:=(((((((HR.out).set 0 (.bool true)).set 1 (.slice x1 d.st.clock.length y1)).set 2 (.slice x2 d.st.lives.length y2)).set 3 (.slice x4 d.st.tals.length y4)).set 4 (.slice none 0 0)).set 5 (.slice x3 d.st.clock.length y3));have hV:=(((((((HV.out).away (g:=w.heap.size+1) (by omega) 0 (.bool true)).away (g:=w.heap.size+1) (by omega) 1 (.slice x1 d.st.clock.length y1)).away (g:=w.heap.size+1) (by omega) 2 (.slice x2 d.st.lives.length y2)).away (g:=w.heap.size+1) (by omega) 3 (.slice x4 d.st.tals.length y4)).away (g:=w.heap.size+1) (by omega) 4 (.slice none 0 0)).away (g:=w.heap.size+1) (by omega) 5 (.slice x3 d.st.clock.length y3));refine bodyPost_ret (Zc rfl _ _ (w.heap.size+1) 35 _ (0,0) _ rfl hR Tryz.underlying35 rfl Tryz.sizeParcel) rfl ⟨_,rfl,hV,?_⟩
   exact(((((((HH.out).setCell (by show w.heap.size≤w.heap.size+1;omega) _).setCell (by show w.heap.size≤w.heap.size+1;omega) _).setCell (by show w.heap.size≤w.heap.size+1;omega) _).setCell (by show w.heap.size≤w.heap.size+1;omega) _).setCell (by show w.heap.size≤w.heap.size+1;omega) _).setCell (by show w.heap.size≤w.heap.size+1;omega) _)
  have hX:(⟨false,⟨[],[],[]⟩,Yc d.log kc,d.st.clock⟩:Pcl)=X:=HX2.out;subst hX
  go_upto_region 6 with fail
  refine rgn HK5.out fun wd hg0 hHeld=>?_;refine ty 0 (.pointer (some ⟨w.heap.size,5,none⟩)) ?_;refine ty 1 (.slice a5 d.log.length c5) ?_;refine ty 2 (.pointer (some ⟨w.heap.size,6,none⟩)) ?_;refine ty 3 (.slice (some ⟨b,off,none⟩) d.known.length c6) ?_;refine ty 4 (.int .i64 (j:Int)) ?_;refine ty 5 (.pointer (some ⟨b,off+j,none⟩)) ?_;refine ty 6 (.slice a8 kc.length c8) ?_;refine wr 7 fun K hK=>?_;go_simp;refine(lacks_own _ _ d.log kc _ (LW.below (Zb HB5.out hg0) (nlr _)) (KRW.below (Zb HB5.out hg0) (nlr _)) HF.small (by have:=HF.few;omega)).mono ?_;rintro e w6 ⟨v6,rfl,ho6,hb6⟩;obtain⟨x6,y6,hv6⟩:=ho6.form;subst hv6;have hg6:Zh w5 w6:=Zd hg0 hb6;refine hK.out _ _ (HK5.out _ hg6) (fun _=>?_);clear hK K
  try simp only[Act.put,Zt,Zs,Zr]
  have P6:=P5.below hg6 (nlr _);have O6:=O5.below hg6 (nlr _);have L6:=ho6.base (C:=w.heap.size+2) (by have:=hs5.out;have:=hg0.size;omega);have R6:=R5.below hg6 (nlr _);have HB6:=Zb HB5.out hg6;refine ty 8 (.pointer (some ⟨w3.heap.size,4,none⟩)) ?_;have p4:=P6.get 4 rfl;have f4:=P6.free 4;have P7:=P6.set 4 (.slice x6 (Yc d.log kc).length y6);have O7:=O6.setT P6 (by decide) 4 (.slice x6 (Yc d.log kc).length y6);have L7:=L6.setT P6 (by decide) (by decide) 4 (.slice x6 (Yc d.log kc).length y6);have R7:=R6.away (g':=w3.heap.size) (i:=4) (v:=.slice x6 (Yc d.log kc).length y6) (by omega);have HB7:=HB6.setCell (p:=⟨w3.heap.size,4,none⟩) (show w.heap.size≤w3.heap.size by omega) (.slice x6 (Yc d.log kc).length y6)
  have hK7:(w6.setCell ⟨w3.heap.size,4,none⟩ (.slice x6 (Yc d.log kc).length y6)).cell? ⟨w.heap.size,6,none⟩=some (.slice (some ⟨b,off,none⟩) d.known.length c6)∧(w6.setCell ⟨w3.heap.size,4,none⟩ (.slice x6 (Yc d.log kc).length y6)).cell? ⟨b,off+j,none⟩=some (.slice a8 kc.length c8)∧(w6.setCell ⟨w3.heap.size,4,none⟩ (.slice x6 (Yc d.log kc).length y6)).cell? ⟨w.heap.size,4,none⟩=some (.slice a4 d.base.length c4)∧(w6.setCell ⟨w3.heap.size,4,none⟩ (.slice x6 (Yc d.log kc).length y6)).cell? ⟨w.heap.size,5,none⟩=some (.slice a5 d.log.length c5):=by
   have g:=G5.below hg6 (nlr _);have g':=g.away (g':=w3.heap.size) (i:=4) (v:=.slice x6 (Yc d.log kc).length y6) (by omega);refine⟨g'.get 6 rfl,?_,g'.get 4 rfl,g'.get 5 rfl⟩
   exact(HB7.cell (p:=⟨b,off+j,none⟩) (World.block_lt_of_cell? w _ KCW.out)).trans KCW.out
  refine wr 9 fun K hK=>?_;go_simp;obtain⟨W7,HW7⟩:∃W7,Hid (w6.setCell ⟨w3.heap.size,4,none⟩ (.slice x6 (Yc d.log kc).length y6)=W7):=⟨_,rfl⟩;rw[HW7.out]at P7 O7 L7 R7 HB7 hK7 ⊢;refine hK.out _ _ hK7 (fun _=>?_);clear hK K p4 f4
  try simp only[Act.put,Zt,Zs,Zr]
  refine wpAnyH_done (by kernel_rfl) ?_ _;have HP:=Za P7;have HR:=Za R7;have HH:=Za HB7;have HV:Hid (Uq W7 (w.heap.size+2) (.agg #[.bool false,.slice none 0 0,.slice none 0 0,.slice none 0 0,.slice x6 (Yc d.log kc).length y6,.slice x3 d.st.clock.length y3]) ⟨false,⟨[],[],[]⟩,Yc d.log kc,d.st.clock⟩):=⟨_,_,_,_,_,rfl,Yl.none _ _,L7,O7⟩;clear P6 P7 O6 O7 L6 L7 R6 R7 HB6 HB7 ho6 hb6 hg6 hK7 G5 P5 O5 R5 HB5 HK5;obtain⟨q0,q1,q2,q3,q4,q5⟩:=HP.c6;have hN0:=HN0.out;subst hN0;have r0:=HR.get 0 rfl;have s0:=HR.free 0;have r1:=HR.get 1 rfl;have s1:=HR.free 1;have r2:=HR.get 2 rfl;have s2:=HR.free 2;have r3:=HR.get 3 rfl;have s3:=HR.free 3;have r4:=HR.get 4 rfl;have s4:=HR.free 4;have r5:=HR.get 5 rfl;have s5:=HR.free 5
  go_wp2_with fail
  have hR:=(((((((HR.out).set 0 (.bool false)).set 1 (.slice none 0 0)).set 2 (.slice none 0 0)).set 3 (.slice none 0 0)).set 4 (.slice x6 (Yc d.log kc).length y6)).set 5 (.slice x3 d.st.clock.length y3));have hV:=(((((((HV.out).away (g:=w.heap.size+1) (by omega) 0 (.bool false)).away (g:=w.heap.size+1) (by omega) 1 (.slice none 0 0)).away (g:=w.heap.size+1) (by omega) 2 (.slice none 0 0)).away (g:=w.heap.size+1) (by omega) 3 (.slice none 0 0)).away (g:=w.heap.size+1) (by omega) 4 (.slice x6 (Yc d.log kc).length y6)).away (g:=w.heap.size+1) (by omega) 5 (.slice x3 d.st.clock.length y3));refine bodyPost_ret (Zc rfl _ _ (w.heap.size+1) 35 _ (0,0) _ rfl hR Tryz.underlying35 rfl Tryz.sizeParcel) rfl ⟨_,rfl,hV,?_⟩
  exact(((((((HH.out).setCell (by show w.heap.size≤w.heap.size+1;omega) _).setCell (by show w.heap.size≤w.heap.size+1;omega) _).setCell (by show w.heap.size≤w.heap.size+1;omega) _).setCell (by show w.heap.size≤w.heap.size+1;omega) _).setCell (by show w.heap.size≤w.heap.size+1;omega) _).setCell (by show w.heap.size≤w.heap.size+1;omega) _)
 have hN':(N != 0)=true:=by simp[hN]
 have hX:X=noPcl:=by rw[←HX.out];unfold sendX;rw[if_neg (by rw[HN.out];exact hN)]
 subst hX;clear hN;have r0:=R2.get 0 rfl;have s0:=R2.free 0;have r1:=R2.get 1 rfl;have s1:=R2.free 1;have r2:=R2.get 2 rfl;have s2:=R2.free 2;have r3:=R2.get 3 rfl;have s3:=R2.free 3;have r4:=R2.get 4 rfl;have s4:=R2.free 4;have r5:=R2.get 5 rfl;have s5:=R2.free 5
 go_wp2_with fail
 have hR:=(((((((R2.out).set 0 (.bool false)).set 1 (.slice none 0 0)).set 2 (.slice none 0 0)).set 3 (.slice none 0 0)).set 4 (.slice none 0 0)).set 5 (.slice none 0 0));have hV:=(((((((Uq.none w2 (w.heap.size+2)).away (g:=w.heap.size+1) (by omega) 0 (.bool false)).away (g:=w.heap.size+1) (by omega) 1 (.slice none 0 0)).away (g:=w.heap.size+1) (by omega) 2 (.slice none 0 0)).away (g:=w.heap.size+1) (by omega) 3 (.slice none 0 0)).away (g:=w.heap.size+1) (by omega) 4 (.slice none 0 0)).away (g:=w.heap.size+1) (by omega) 5 (.slice none 0 0));refine bodyPost_ret (Zc rfl _ _ (w.heap.size+1) 35 _ (0,0) _ rfl hR Tryz.underlying35 rfl Tryz.sizeParcel) rfl ⟨_,rfl,hV,?_⟩
 exact(((((((HB2.out).setCell (by show w.heap.size≤w.heap.size+1;omega) _).setCell (by show w.heap.size≤w.heap.size+1;omega) _).setCell (by show w.heap.size≤w.heap.size+1;omega) _).setCell (by show w.heap.size≤w.heap.size+1;omega) _).setCell (by show w.heap.size≤w.heap.size+1;omega) _).setCell (by show w.heap.size≤w.heap.size+1;omega) _)
end Go.Proofs.YtfhecilhcofboaaGreat
