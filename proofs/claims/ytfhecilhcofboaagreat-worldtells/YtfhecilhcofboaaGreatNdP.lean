/- What a node does in a variable: node.play, node.knowSelf, node.forget. -/
import Derived.Test.YtfhecilhcofboaaGreatNdC
namespace Go.Proofs.YtfhecilhcofboaaGreat
open Go.RowKit

theorem play_small{d:NdS}{u:Upd}(h:Qi d u=0):u.seen.length≤6∧d.log.length<300:=by
 unfold Qi at h
 split at h
 ·cases h
 obtain⟨-,-,h3⟩:=playE_iff.1 h;obtain⟨hw,-⟩:=Vc h3;unfold Yz at hw
 split at hw
 ·next hu=>
  obtain⟨hc,-⟩:=Xj hu;have:=Zm.1 hc;exact⟨by omega,by omega⟩
 next hu=>exact absurd hw hu
def playV(d:NdS)(u:Upd):NdS:=if Qi d u=0 then zL d u else d

set_option maxRecDepth 100000 in
set_option maxHeartbeats 2000000 in
theorem play_node(B g:Nat)(uv:Value)(d:NdS)(u:Upd)(w:World)(hd:NdV w B g d)(hu:∀w',Below B w w'→Jf w' uv u):
  Calls Tryz.prog 37 #[.pointer (some ⟨g,0,none⟩),uv] w fun e w'=>e=.returned (.int .i64 (Qi d u))∧NdV w' B g (playV d u)∧Below B w w':=by
 have hui:=hu;obtain⟨sv,rfl,hs⟩:=hu w (Below.refl _ _);obtain⟨a7,c7,rfl,-,-,-⟩:=id hs;obtain⟨i0,hi,hz0,hz1,hz2⟩:=info_parts Tryz.infoUpd;have hbp:=bpl w (.cells #[.int .i64 u.author,.slice a7 u.seen.length c7,.int .i64 u.kind,.int .i64 u.key,.int .i64 u.item] 33);have D0:=hd.below hbp (nlr _);have V0:=Za (Box.new w [.int .i64 u.author,.slice a7 u.seen.length c7,.int .i64 u.kind,.int .i64 u.key,.int .i64 u.item] 33);have hgl:=hd.lt;have HB0:Hid (Below B w (w.alloc (.cells #[.int .i64 u.author,.slice a7 u.seen.length c7,.int .i64 u.kind,.int .i64 u.key,.int .i64 u.item] 33))):=hbp.mono (by omega);have UW:=Za hui;have hg1:¬(g=w.heap.size):=by omega
 have hg2:¬(w.heap.size=g):=by omega
 obtain⟨W1,HW1⟩:∃W1,Hid (w.alloc (.cells #[.int .i64 u.author,.slice a7 u.seen.length c7,.int .i64 u.kind,.int .i64 u.key,.int .i64 u.item] 33)=W1):=⟨_,rfl⟩;have hsz:W1.heap.size=w.heap.size+1:=by rw[←HW1.out,World.size_alloc]
 rw[HW1.out]at D0 V0 HB0;obtain⟨a1,c1,a2,c2,a3,c3,a4,c4,a5,c5,a6,c6,hboxw,hstw,-,-,hlogw,-⟩:=hd.form;have hb01:Below w.heap.size w W1:=by rw[←HW1.out];exact hbp
 have hbox:=hboxw.below hb01 (nlr _);have hst:=hstw.below hb01 (nlr _);have hlog:=hlogw.below hb01 (nlr _)
 have HLB:Hid (∀k,(Value.slice a5 d.log.length c5).ownBlock=some k→k<w.heap.size):=by
  obtain⟨ps,h1,-⟩:=hlogw;exact fun k hk=>(h1.1.lt k hk).2
 have hll:=hlog.log.len_le;have g5:=hbox.get 5 rfl;have HX:=Za hbox;have HD:=Za D0;have HST:=Za hst;have HLG:=Za hlog;have HSZ:=Za hsz;have HK:Hid (∀w',Zh W1 w'→w'.cell? ⟨g,1,none⟩=some (.slice a1 d.st.clock.length c1)∧w'.cell? ⟨g,2,none⟩=some (.slice a2 d.st.lives.length c2)∧w'.cell? ⟨g,3,none⟩=some (.slice a3 d.st.tals.length c3)∧w'.cell? ⟨w.heap.size,0,none⟩=some (.int .i64 u.author)∧w'.cell? ⟨w.heap.size,1,none⟩=some (.slice a7 u.seen.length c7)∧w'.cell? ⟨w.heap.size,2,none⟩=some (.int .i64 u.kind)∧w'.cell? ⟨w.heap.size,3,none⟩=some (.int .i64 u.key)∧w'.cell? ⟨w.heap.size,4,none⟩=some (.int .i64 u.item)):=fun w' hg=>⟨(HX.below hg (nlr _)).get 1 rfl,(HX.below hg (nlr _)).get 2 rfl,(HX.below hg (nlr _)).get 3 rfl,(V0.below hg (nlr _)).get 0 rfl,(V0.below hg (nlr _)).get 1 rfl,(V0.below hg (nlr _)).get 2 rfl,(V0.below hg (nlr _)).get 3 rfl,(V0.below hg (nlr _)).get 4 rfl⟩;clear hui hs hd hbp hbox hst hlog D0 hsz hboxw hstw hlogw hb01;obtain⟨E,HE⟩:∃E,Hid (Qi d u=E):=⟨_,rfl⟩;obtain⟨Y,HY⟩:∃Y,Hid (playV d u=Y):=⟨_,rfl⟩;rw[HE.out,HY.out];have hEq:=HE.out;unfold Qi at hEq
 by_cases h1:300≤d.log.length
 ·rw[if_pos h1]at hEq;subst hEq;have hYd:d=Y:=by rw[←HY.out];unfold playV;rw[if_neg (by rw[HE.out];decide)]
  subst hYd;have h1':(300:Int)≤(d.log.length:Int):=by omega
  clear h1
  go_enter Tryz.func37,Tryz.ntmps37
  go_upto_region 1 with fail
  rw[HW1.out]
  go_wp2_with fail
  go_ret
  exact⟨rfl,HD.out,HB0.out⟩
 rw[if_neg h1]at hEq;have h1':¬(300:Int)≤(d.log.length:Int):=by omega
 have HEq:=Za hEq;clear h1 hEq;obtain⟨S,HS⟩:∃S,Hid (yB d.st [u]=S):=⟨_,rfl⟩;obtain⟨Q,HQ⟩:∃Q,Hid (Ol d.st [u]=Q):=⟨_,rfl⟩;rw[HQ.out]at HEq
 go_enter Tryz.func37,Tryz.ntmps37
 go_upto_region 1 with fail
 rw[HW1.out]
 go_upto_region 3 with fail
 clear g5
 go_cut [5,6] (fun c1 c2 wx=>∃gs x1 y1 x2 y2 x3 y3,c1=.pointer (some ⟨gs,0,none⟩)∧c2=.int .i64 Q∧Hid (Box wx gs [.slice x1 S.clock.length y1,.slice x2 S.lives.length y2,.slice x3 S.tals.length y3] 27)∧Hid (Yl wx W1.heap.size (.agg #[.slice x1 S.clock.length y1,.slice x2 S.lives.length y2,.slice x3 S.tals.length y3]) S)∧Hid (Zh W1 wx)∧Hid (W1.heap.size≤gs))
 case first=>
  refine rgn HK.out fun wd hg0 hHeld=>?_;refine ty 0 (.pointer (some ⟨g,0,none⟩)) ?_;refine ty 1 (.pointer (some ⟨g,0,none⟩)) ?_;refine ty 2 (.pointer (some ⟨g,1,none⟩)) ?_;refine ty 3 (.agg #[.slice a1 d.st.clock.length c1,.slice a2 d.st.lives.length c2,.slice a3 d.st.tals.length c3]) ?_;refine ty 4 (.agg #[.int .i64 u.author,.slice a7 u.seen.length c7,.int .i64 u.kind,.int .i64 u.key,.int .i64 u.item]) ?_;refine wpAnyH_ready (rs:=[5,9]) (by kernel_rfl) (by simp) ?_;refine rdc rfl (fun K hK=>?_) (rd1 rfl (fun K hK=>?_))
  ·go_simp;refine(apply_state _ _ d.st u _ (HST.st.below hg0 (nlr _)) (UW.out _ (HB0.trans (hg0.mono (by have:=HSZ.out;omega))))).mono ?_;rintro e w2 ⟨rv,rfl,ho2,hb2⟩;rw[HQ.out];rw[HS.out]at ho2;obtain⟨x1,y1,x2,y2,x3,y3,hrv⟩:=ho2.formW;subst hrv;have hg2:Zh W1 w2:=Zd hg0 hb2;refine hK.out _ _ (HK.out _ hg2) (fun hHeld2=>?_);clear hK K
   try simp only[Act.put,Zt,Zs,Zr]
   refine ty 6 (.tuple #[.agg #[.slice x1 S.clock.length y1,.slice x2 S.lives.length y2,.slice x3 S.tals.length y3],.int .i64 Q]) ?_;refine ty 7 (.agg #[.slice x1 S.clock.length y1,.slice x2 S.lives.length y2,.slice x3 S.tals.length y3]) ?_;refine ty 8 (.int .i64 Q) ?_;obtain⟨w3,hw3⟩:∃w3,Hid (w2.alloc (.cells #[.slice none 0 0,.slice none 0 0,.slice none 0 0] 27)=w3):=⟨_,rfl⟩;have hbp:Below w2.heap.size w2 w3:=by rw[←hw3.out];exact bpl w2 (.cells #[.slice none 0 0,.slice none 0 0,.slice none 0 0] 27)
   have bx:Box w3 w2.heap.size [.slice none 0 0,.slice none 0 0,.slice none 0 0] 27:=by rw[←hw3.out];exact Box.new w2 [.slice none 0 0,.slice none 0 0,.slice none 0 0] 27
   have hg3:Zh W1 w3:=Zd hg2 hbp;have hge:W1.heap.size≤w2.heap.size:=hg2.size;have ho3:=(ho2.base (C:=W1.heap.size) (by have:=hg0.size;omega)).below hbp (nlr _);refine wr 9 fun K hK=>?_;go_simp;rw[hw3.out];refine hK.out _ _ (HK.out _ hg3) (fun hHeld3=>?_);clear hK K
   try simp only[Act.put,Zt,Zs,Zr]
   have c0:=bx.get 0 rfl;have f0:=bx.free 0;have c1':=bx.get 1 rfl;have f1:=bx.free 1;have c2':=bx.get 2 rfl;have f2:=bx.free 2;have bs:=((bx.set 0 (.slice x1 S.clock.length y1)).set 1 (.slice x2 S.lives.length y2)).set 2 (.slice x3 S.tals.length y3);have os:=((ho3.setT bx (by decide) (by decide) (by decide) 0 (.slice x1 S.clock.length y1)).setT (bx.set 0 (.slice x1 S.clock.length y1)) (by decide) (by decide) (by decide) 1 (.slice x2 S.lives.length y2)).setT ((bx.set 0 (.slice x1 S.clock.length y1)).set 1 (.slice x2 S.lives.length y2)) (by decide) (by decide) (by decide) 2 (.slice x3 S.tals.length y3);have hgs:Zh W1 (((w3.setCell ⟨w2.heap.size,0,none⟩ (.slice x1 S.clock.length y1)).setCell ⟨w2.heap.size,1,none⟩ (.slice x2 S.lives.length y2)).setCell ⟨w2.heap.size,2,none⟩ (.slice x3 S.tals.length y3)):=((Below.setCell hg3 (p:=⟨w2.heap.size,0,none⟩) hge _).setCell (p:=⟨w2.heap.size,1,none⟩) hge _).setCell (p:=⟨w2.heap.size,2,none⟩) hge _;refine wr 10 fun K hK=>?_;go_simp;refine hK.out _ _ (HK.out _ hgs) (fun _=>?_);clear hK K c0 c1' c2' f0 f1 f2
   try simp only[Act.put,Zt,Zs,Zr]
   refine wr 11 fun K hK=>?_;go_simp;refine hK.out _ _ (HK.out _ hgs) (fun _=>?_);clear hK K
   try simp only[Act.put,Zt,Zs,Zr]
   refine wpAnyH_done (by kernel_rfl) ?_ _
   go_wp2_with fail
   go_meet
   exact⟨_,_,_,_,_,_,_,rfl,rfl,bs,os,hgs,hge⟩
  go_simp;obtain⟨w3,hw3⟩:∃w3,Hid (wd.alloc (.cells #[.slice none 0 0,.slice none 0 0,.slice none 0 0] 27)=w3):=⟨_,rfl⟩;have hbp:Below wd.heap.size wd w3:=by rw[←hw3.out];exact bpl wd (.cells #[.slice none 0 0,.slice none 0 0,.slice none 0 0] 27)
  have bx0:Box w3 wd.heap.size [.slice none 0 0,.slice none 0 0,.slice none 0 0] 27:=by rw[←hw3.out];exact Box.new wd [.slice none 0 0,.slice none 0 0,.slice none 0 0] 27
  have hg1:Zh W1 w3:=Zd hg0 hbp;have hge:W1.heap.size≤wd.heap.size:=hg0.size;rw[hw3.out];refine hK.out _ _ (HK.out _ hg1) (fun hHeld3=>?_);clear hK K
  try simp only[Act.put,Zt,Zs,Zr]
  refine wr 5 fun K hK=>?_;go_simp;refine(apply_state _ _ d.st u _ (HST.st.below hg1 (nlr _)) (UW.out _ (HB0.trans (hg1.mono (by have:=HSZ.out;omega))))).mono ?_;rintro e w2 ⟨rv,rfl,ho2,hb2⟩;rw[HQ.out];rw[HS.out]at ho2;obtain⟨x1,y1,x2,y2,x3,y3,hrv⟩:=ho2.formW;subst hrv;have hg3:Zh W1 w2:=Zd hg1 hb2;have bx:=bx0.below hb2 (nlr _);have ho3:=ho2.base (C:=W1.heap.size) (by have:=hg1.size;omega);refine hK.out _ _ (HK.out _ hg3) (fun hHeld2=>?_);clear hK K
  try simp only[Act.put,Zt,Zs,Zr]
  refine ty 6 (.tuple #[.agg #[.slice x1 S.clock.length y1,.slice x2 S.lives.length y2,.slice x3 S.tals.length y3],.int .i64 Q]) ?_;refine ty 7 (.agg #[.slice x1 S.clock.length y1,.slice x2 S.lives.length y2,.slice x3 S.tals.length y3]) ?_;refine ty 8 (.int .i64 Q) ?_;have c0:=bx.get 0 rfl;have f0:=bx.free 0;have c1':=bx.get 1 rfl;have f1:=bx.free 1;have c2':=bx.get 2 rfl;have f2:=bx.free 2;have bs:=((bx.set 0 (.slice x1 S.clock.length y1)).set 1 (.slice x2 S.lives.length y2)).set 2 (.slice x3 S.tals.length y3);have os:=((ho3.setT bx (by decide) (by decide) (by decide) 0 (.slice x1 S.clock.length y1)).setT (bx.set 0 (.slice x1 S.clock.length y1)) (by decide) (by decide) (by decide) 1 (.slice x2 S.lives.length y2)).setT ((bx.set 0 (.slice x1 S.clock.length y1)).set 1 (.slice x2 S.lives.length y2)) (by decide) (by decide) (by decide) 2 (.slice x3 S.tals.length y3);have hgs:Zh W1 (((w2.setCell ⟨wd.heap.size,0,none⟩ (.slice x1 S.clock.length y1)).setCell ⟨wd.heap.size,1,none⟩ (.slice x2 S.lives.length y2)).setCell ⟨wd.heap.size,2,none⟩ (.slice x3 S.tals.length y3)):=((Below.setCell hg3 (p:=⟨wd.heap.size,0,none⟩) hge _).setCell (p:=⟨wd.heap.size,1,none⟩) hge _).setCell (p:=⟨wd.heap.size,2,none⟩) hge _;refine wr 10 fun K hK=>?_;go_simp;refine hK.out _ _ (HK.out _ hgs) (fun _=>?_);clear hK K c0 c1' c2' f0 f1 f2
  try simp only[Act.put,Zt,Zs,Zr]
  refine wr 11 fun K hK=>?_;go_simp;refine hK.out _ _ (HK.out _ hgs) (fun _=>?_);clear hK K
  try simp only[Act.put,Zt,Zs,Zr]
  refine wpAnyH_done (by kernel_rfl) ?_ _
  go_wp2_with fail
  go_meet
  exact⟨_,_,_,_,_,_,_,rfl,rfl,bs,os,hgs,hge⟩
 obtain⟨gs,x1,y1,x2,y2,x3,y3,rfl,rfl,BX,OS,HGR,HGE⟩:=hcut;obtain⟨w4,rfl⟩:∃w4,w4=wc:=⟨wc,rfl⟩;have D4:=Za (HD.below HGR.out (nlr _));have X4:=Za (HX.below HGR.out (nlr _));have V4:=Za (V0.below HGR.out (nlr _));have HB4:Hid (Below B w w4):=HB0.trans (HGR.mono (by have:=HSZ.out;omega));have hsz:=HSZ.out;have hge:=HGE.out;have n1:¬(gs=g):=by omega
 have n2:¬(g=gs):=by omega
 have n3:¬(gs=w.heap.size):=by omega
 have n4:¬(w.heap.size=gs):=by omega
 have L4:=Za (HLG.below HGR.out (nlr _));clear HK HD HX V0 HST HLG hg1 hg2
 by_cases h2:Q=0
 ·have h2':(Q != 0)=false:=by simp[h2]
  have hE0:E=0:=by rw[←HEq.out];exact h2
  subst hE0;have hYd:Hid (Y=⟨d.self,S,d.base,d.log++[u],d.known⟩):=by unfold Hid;rw[←HY.out,←HS.out];unfold playV;rw[if_pos HE.out];rfl
  obtain⟨hsm,hlt⟩:=play_small HE.out;have HSM:=Za hsm;have HLT:=Za hlt;clear hsm hlt h2;obtain⟨b0,b1,b2⟩:=BX.c3;have g1:=X4.get 1 rfl;have g2:=X4.get 2 rfl;have g3:=X4.get 3 rfl;have g5:=X4.get 5 rfl;have f1:=X4.free 1;have f2:=X4.free 2;have f3:=X4.free 3;obtain⟨v0,v1,v2,v3,v4⟩:=V4.c5
  go_wp2_with fail
  clear b0 b1 b2 g1 g2 g3 g5 f1 f2 f3 v0 v1 v2 v3 v4;obtain⟨W5,HW5⟩:∃W5,Hid (((w4.setCell ⟨g,1,none⟩ (.slice x1 S.clock.length y1)).setCell ⟨g,2,none⟩ (.slice x2 S.lives.length y2)).setCell ⟨g,3,none⟩ (.slice x3 S.tals.length y3)=W5):=⟨_,rfl⟩;have D5:=D4.setSt (OS.base (C:=B) (by omega));have X5:=((X4.set 1 (.slice x1 S.clock.length y1)).set 2 (.slice x2 S.lives.length y2)).set 3 (.slice x3 S.tals.length y3);have V5:=((V4.away (g':=g) (i:=1) (v:=.slice x1 S.clock.length y1) (by omega)).away (g':=g) (i:=2) (v:=.slice x2 S.lives.length y2) (by omega)).away (g':=g) (i:=3) (v:=.slice x3 S.tals.length y3) (by omega);have HB5:=((HB4.setCell (p:=⟨g,1,none⟩) hgl.2 (.slice x1 S.clock.length y1)).setCell (p:=⟨g,2,none⟩) hgl.2 (.slice x2 S.lives.length y2)).setCell (p:=⟨g,3,none⟩) hgl.2 (.slice x3 S.tals.length y3);rw[HW5.out]at D5 X5 V5 HB5;rw[HW5.out];have hs5:=X5.lt;have hv5:=V5.lt;have HK:Hid (∀w',Box w' w.heap.size [.int .i64 u.author,.slice a7 u.seen.length c7,.int .i64 u.kind,.int .i64 u.key,.int .i64 u.item] 33→w'.cell? ⟨w.heap.size,0,none⟩=some (.int .i64 u.author)∧w'.cell? ⟨w.heap.size,1,none⟩=some (.slice a7 u.seen.length c7)∧w'.cell? ⟨w.heap.size,2,none⟩=some (.int .i64 u.kind)∧w'.cell? ⟨w.heap.size,3,none⟩=some (.int .i64 u.key)∧w'.cell? ⟨w.heap.size,4,none⟩=some (.int .i64 u.item)):=fun w' h2=>⟨h2.get 0 rfl,h2.get 1 rfl,h2.get 2 rfl,h2.get 3 rfl,h2.get 4 rfl⟩;clear D4 X4 V4 HB4 OS BX HGR HGE n1 n2 n3 n4;refine wp_region_held_drew (S:=fun w'=>w'.cell? ⟨w.heap.size,0,none⟩=some (.int .i64 u.author)∧w'.cell? ⟨w.heap.size,1,none⟩=some (.slice a7 u.seen.length c7)∧w'.cell? ⟨w.heap.size,2,none⟩=some (.int .i64 u.kind)∧w'.cell? ⟨w.heap.size,3,none⟩=some (.int .i64 u.key)∧w'.cell? ⟨w.heap.size,4,none⟩=some (.int .i64 u.item)) (by kernel_rfl) (HK.out _ V5) (fun hHeld=>?_);obtain⟨wd,HWD⟩:∃wd,Hid (W5.drew=wd):=⟨_,rfl⟩;have hg0:Zh W5 wd:=by rw[←HWD.out];exact Zf (Zi W5)
  rw[HWD.out]at hHeld ⊢;refine ty 0 (.pointer (some ⟨g,0,none⟩)) ?_;refine ty 1 (.pointer (some ⟨g,0,none⟩)) ?_;refine ty 2 (.pointer (some ⟨g,0,none⟩)) ?_;refine ty 3 (.pointer (some ⟨g,5,none⟩)) ?_;refine ty 5 (.agg #[.int .i64 u.author,.slice a7 u.seen.length c7,.int .i64 u.kind,.int .i64 u.key,.int .i64 u.item]) ?_;have Xd:=X5.below hg0 (nlr _);have Vd:=V5.below hg0 (nlr _);refine wpAnyH_ready (rs:=[4,6]) (by kernel_rfl) (by simp) ?_;refine rdc rfl (fun K hK=>?_) (rd1 rfl (fun K hK=>?_))
  ·have g5:=Xd.get 5 rfl;go_simp;refine hK.out _ _ (HK.out _ Vd) (fun _=>?_);clear hK K g5
   try simp only[Act.put,Zt,Zs,Zr]
   refine wr 6 fun K hK=>?_;go_simp;refine(copy_upd _ u _ (UW.out _ (HB5.trans (hg0.mono (by omega)))) (by have:=HSM.out;omega)).mono ?_;rintro e w6 ⟨sv,rfl,ho6,hb6⟩;obtain⟨x7,y7,hsv,-⟩:=ho6.row;subst hsv;have hg6:Zh W5 w6:=Zd hg0 hb6;have X6:=X5.below hg6 (nlr _);have V6:=V5.below hg6 (nlr _);refine hK.out _ _ (HK.out _ V6) (fun hHeld2=>?_);clear hK K
   try simp only[Act.put,Zt,Zs,Zr]
   refine wr 7 fun K hK=>?_;go_simp;obtain⟨w7,hw7⟩:∃w7,Hid (w6.alloc (.cells #[.int .i64 u.author,.slice x7 u.seen.length y7,.int .i64 u.kind,.int .i64 u.key,.int .i64 u.item] 33)=w7):=⟨_,rfl⟩;have hbp:Below w6.heap.size w6 w7:=by rw[←hw7.out];exact bpl w6 (.cells #[.int .i64 u.author,.slice x7 u.seen.length y7,.int .i64 u.kind,.int .i64 u.key,.int .i64 u.item] 33)
   have N7:Box w7 w6.heap.size (Yn u (.slice x7 u.seen.length y7)) 33:=by rw[←hw7.out];exact Box.new w6 (Yn u (.slice x7 u.seen.length y7)) 33
   have hg7:Zh W5 w7:=Zd hg6 hbp;have X7:=X5.below hg7 (nlr _);have V7:=V5.below hg7 (nlr _);have D7:=D5.below hg7 (nlr _);rw[hw7.out];refine hK.out _ _ (HK.out _ V7) (fun hHeld3=>?_);clear hK K
   try simp only[Act.put,Zt,Zs,Zr]
   obtain⟨ps,hps,hpl⟩:∃ps,zX w7 B (.slice a5 d.log.length c5) ps∧ps.map (·.1)=d.log:=by
    obtain⟨cv,lv,tv,bv,uv,kv,he,-,-,hL,-⟩:=D7.value X7;simp only[Value.agg.injEq,Array.mk.injEq,List.cons.injEq,and_true]at he;obtain⟨-,-,-,-,-,rfl,-⟩:=he;exact hL
   have hplen:ps.length=d.log.length:=by have:=congrArg List.length hpl;simpa using this
   have hlt3:=HLT.out;refine wr 8 fun K hK=>?_;refine Xn rfl (.tmp 33) (.tmp 36) 28 28 rfl B 33 i0 (.agg #[.int .i64 0,.slice none 0 0,.int .i64 0,.int .i64 0,.int .i64 0]) 5 56 Tryz.underlying28 hi hz0 hz1 hz2 rfl (.slice a5 d.log.length c5) ps.length (Um ps) rfl hps.1 (.slice (some ⟨w6.heap.size,0,none⟩) 1 1) rfl 1 (Yn u (.slice x7 u.seen.length y7)) (Src.ofSlice w7 Tryz.underlying28 ⟨w6.heap.size,0,none⟩ 1 1 _ rfl N7.cellsAt (Ud rfl)) (by unfold maxLen;omega) (by omega) (by have:=hg7.size;omega) ?_;intro v8 w8 hc8 hg8
   have hvf:∃a8 c8,v8=.slice a8 (d.log.length+1) c8:=by
    rcases hc8.2 with⟨-,h0⟩|⟨g8,cap,cur,h0,-⟩
    ·omega
    exact⟨_,_,by rw[h0,hplen]⟩
   obtain⟨a8,c8,hv8⟩:=hvf;subst hv8;have X8:=X7.grownT hps.1 hg8 (by decide);have V8:=V7.grownN hg8 (fun he=>by have:=HLB.out _ he.symm;omega);have HB8:Below B w w8:=(HB5.trans (hg7.mono (by omega))).grown hg8 (by have:=hg7.size;omega) (fun k hk=>(hps.1.lt k hk).1);have hD8:=D7.append X7 hps hpl ((ho6.mono (C:=B) (by have:=hg0.size;omega)).below hbp (nlr _)) hc8 hg8;have V9:=V8.away (g':=g) (i:=5) (v:=.slice a8 (d.log.length+1) c8) (by omega);refine hK.out _ _ (HK.out _ V8) (fun hHeld4=>?_);clear hK K
   try simp only[Act.put,Zt]
   refine ty 9 (.pointer (some ⟨g,0,none⟩)) ?_;refine ty 10 (.pointer (some ⟨g,5,none⟩)) ?_;have g5:=X8.get 5 rfl;have f5:=X8.free 5;refine wr 11 fun K hK=>?_;go_simp;refine hK.out _ _ (HK.out _ V9) (fun hHeld5=>?_);clear hK K
   try simp only[Act.put,Zt,Zs,Zr]
   refine wpAnyH_done (by kernel_rfl) ?_ _
   go_wp2_with fail
   go_ret
   refine⟨rfl,?_,HB8.setCell (p:=⟨g,5,none⟩) hgl.2 _⟩;rw[hYd.out];exact hD8
  go_simp;refine(copy_upd _ u _ (UW.out _ (HB5.trans (hg0.mono (by omega)))) (by have:=HSM.out;omega)).mono ?_;rintro e w6 ⟨sv,rfl,ho6,hb6⟩;obtain⟨x7,y7,hsv,-⟩:=ho6.row;subst hsv;have hg6:Zh W5 w6:=Zd hg0 hb6;have X6:=X5.below hg6 (nlr _);have V6:=V5.below hg6 (nlr _);refine hK.out _ _ (HK.out _ V6) (fun hHeld2=>?_);clear hK K
  try simp only[Act.put,Zt,Zs,Zr]
  refine wpAnyH_ready (rs:=[4,7]) (by kernel_rfl) (by simp) ?_;refine rdc rfl (fun K hK=>?_) (rd1 rfl (fun K hK=>?_))
  ·have g5:=X6.get 5 rfl;go_simp;refine hK.out _ _ (HK.out _ V6) (fun _=>?_);clear hK K g5
   try simp only[Act.put,Zt,Zs,Zr]
   refine wr 7 fun K hK=>?_;go_simp;obtain⟨w7,hw7⟩:∃w7,Hid (w6.alloc (.cells #[.int .i64 u.author,.slice x7 u.seen.length y7,.int .i64 u.kind,.int .i64 u.key,.int .i64 u.item] 33)=w7):=⟨_,rfl⟩;have hbp:Below w6.heap.size w6 w7:=by rw[←hw7.out];exact bpl w6 (.cells #[.int .i64 u.author,.slice x7 u.seen.length y7,.int .i64 u.kind,.int .i64 u.key,.int .i64 u.item] 33)
   have N7:Box w7 w6.heap.size (Yn u (.slice x7 u.seen.length y7)) 33:=by rw[←hw7.out];exact Box.new w6 (Yn u (.slice x7 u.seen.length y7)) 33
   have hg7:Zh W5 w7:=Zd hg6 hbp;have X7:=X5.below hg7 (nlr _);have V7:=V5.below hg7 (nlr _);have D7:=D5.below hg7 (nlr _);rw[hw7.out];refine hK.out _ _ (HK.out _ V7) (fun hHeld3=>?_);clear hK K
   try simp only[Act.put,Zt,Zs,Zr]
   obtain⟨ps,hps,hpl⟩:∃ps,zX w7 B (.slice a5 d.log.length c5) ps∧ps.map (·.1)=d.log:=by
    obtain⟨cv,lv,tv,bv,uv,kv,he,-,-,hL,-⟩:=D7.value X7;simp only[Value.agg.injEq,Array.mk.injEq,List.cons.injEq,and_true]at he;obtain⟨-,-,-,-,-,rfl,-⟩:=he;exact hL
   have hplen:ps.length=d.log.length:=by have:=congrArg List.length hpl;simpa using this
   have hlt3:=HLT.out;refine wr 8 fun K hK=>?_;refine Xn rfl (.tmp 33) (.tmp 36) 28 28 rfl B 33 i0 (.agg #[.int .i64 0,.slice none 0 0,.int .i64 0,.int .i64 0,.int .i64 0]) 5 56 Tryz.underlying28 hi hz0 hz1 hz2 rfl (.slice a5 d.log.length c5) ps.length (Um ps) rfl hps.1 (.slice (some ⟨w6.heap.size,0,none⟩) 1 1) rfl 1 (Yn u (.slice x7 u.seen.length y7)) (Src.ofSlice w7 Tryz.underlying28 ⟨w6.heap.size,0,none⟩ 1 1 _ rfl N7.cellsAt (Ud rfl)) (by unfold maxLen;omega) (by omega) (by have:=hg7.size;omega) ?_;intro v8 w8 hc8 hg8
   have hvf:∃a8 c8,v8=.slice a8 (d.log.length+1) c8:=by
    rcases hc8.2 with⟨-,h0⟩|⟨g8,cap,cur,h0,-⟩
    ·omega
    exact⟨_,_,by rw[h0,hplen]⟩
   obtain⟨a8,c8,hv8⟩:=hvf;subst hv8;have X8:=X7.grownT hps.1 hg8 (by decide);have V8:=V7.grownN hg8 (fun he=>by have:=HLB.out _ he.symm;omega);have HB8:Below B w w8:=(HB5.trans (hg7.mono (by omega))).grown hg8 (by have:=hg7.size;omega) (fun k hk=>(hps.1.lt k hk).1);have hD8:=D7.append X7 hps hpl ((ho6.mono (C:=B) (by have:=hg0.size;omega)).below hbp (nlr _)) hc8 hg8;have V9:=V8.away (g':=g) (i:=5) (v:=.slice a8 (d.log.length+1) c8) (by omega);refine hK.out _ _ (HK.out _ V8) (fun hHeld4=>?_);clear hK K
   try simp only[Act.put,Zt]
   refine ty 9 (.pointer (some ⟨g,0,none⟩)) ?_;refine ty 10 (.pointer (some ⟨g,5,none⟩)) ?_;have g5:=X8.get 5 rfl;have f5:=X8.free 5;refine wr 11 fun K hK=>?_;go_simp;refine hK.out _ _ (HK.out _ V9) (fun hHeld5=>?_);clear hK K
   try simp only[Act.put,Zt,Zs,Zr]
   refine wpAnyH_done (by kernel_rfl) ?_ _
   go_wp2_with fail
   go_ret
   refine⟨rfl,?_,HB8.setCell (p:=⟨g,5,none⟩) hgl.2 _⟩;rw[hYd.out];exact hD8
  go_simp;obtain⟨w7,hw7⟩:∃w7,Hid (w6.alloc (.cells #[.int .i64 u.author,.slice x7 u.seen.length y7,.int .i64 u.kind,.int .i64 u.key,.int .i64 u.item] 33)=w7):=⟨_,rfl⟩;have hbp:Below w6.heap.size w6 w7:=by rw[←hw7.out];exact bpl w6 (.cells #[.int .i64 u.author,.slice x7 u.seen.length y7,.int .i64 u.kind,.int .i64 u.key,.int .i64 u.item] 33)
  have N7:Box w7 w6.heap.size (Yn u (.slice x7 u.seen.length y7)) 33:=by rw[←hw7.out];exact Box.new w6 (Yn u (.slice x7 u.seen.length y7)) 33
  have hg7:Zh W5 w7:=Zd hg6 hbp;have X7:=X5.below hg7 (nlr _);have V7:=V5.below hg7 (nlr _);have D7:=D5.below hg7 (nlr _);rw[hw7.out];refine hK.out _ _ (HK.out _ V7) (fun hHeld3=>?_);clear hK K
  try simp only[Act.put,Zt,Zs,Zr]
  refine wr 4 fun K hK=>?_;have g5:=X7.get 5 rfl;go_simp;refine hK.out _ _ (HK.out _ V7) (fun _=>?_);clear hK K g5
  try simp only[Act.put,Zt,Zs,Zr]
  obtain⟨ps,hps,hpl⟩:∃ps,zX w7 B (.slice a5 d.log.length c5) ps∧ps.map (·.1)=d.log:=by
   obtain⟨cv,lv,tv,bv,uv,kv,he,-,-,hL,-⟩:=D7.value X7;simp only[Value.agg.injEq,Array.mk.injEq,List.cons.injEq,and_true]at he;obtain⟨-,-,-,-,-,rfl,-⟩:=he;exact hL
  have hplen:ps.length=d.log.length:=by have:=congrArg List.length hpl;simpa using this
  have hlt3:=HLT.out;refine wr 8 fun K hK=>?_;refine Xn rfl (.tmp 33) (.tmp 36) 28 28 rfl B 33 i0 (.agg #[.int .i64 0,.slice none 0 0,.int .i64 0,.int .i64 0,.int .i64 0]) 5 56 Tryz.underlying28 hi hz0 hz1 hz2 rfl (.slice a5 d.log.length c5) ps.length (Um ps) rfl hps.1 (.slice (some ⟨w6.heap.size,0,none⟩) 1 1) rfl 1 (Yn u (.slice x7 u.seen.length y7)) (Src.ofSlice w7 Tryz.underlying28 ⟨w6.heap.size,0,none⟩ 1 1 _ rfl N7.cellsAt (Ud rfl)) (by unfold maxLen;omega) (by omega) (by have:=hg7.size;omega) ?_;intro v8 w8 hc8 hg8
  have hvf:∃a8 c8,v8=.slice a8 (d.log.length+1) c8:=by
   rcases hc8.2 with⟨-,h0⟩|⟨g8,cap,cur,h0,-⟩
   ·omega
   exact⟨_,_,by rw[h0,hplen]⟩
  obtain⟨a8,c8,hv8⟩:=hvf;subst hv8;have X8:=X7.grownT hps.1 hg8 (by decide);have V8:=V7.grownN hg8 (fun he=>by have:=HLB.out _ he.symm;omega);have HB8:Below B w w8:=(HB5.trans (hg7.mono (by omega))).grown hg8 (by have:=hg7.size;omega) (fun k hk=>(hps.1.lt k hk).1);have hD8:=D7.append X7 hps hpl ((ho6.mono (C:=B) (by have:=hg0.size;omega)).below hbp (nlr _)) hc8 hg8;have V9:=V8.away (g':=g) (i:=5) (v:=.slice a8 (d.log.length+1) c8) (by omega);refine hK.out _ _ (HK.out _ V8) (fun hHeld4=>?_);clear hK K
  try simp only[Act.put,Zt]
  refine ty 9 (.pointer (some ⟨g,0,none⟩)) ?_;refine ty 10 (.pointer (some ⟨g,5,none⟩)) ?_;have g5:=X8.get 5 rfl;have f5:=X8.free 5;refine wr 11 fun K hK=>?_;go_simp;refine hK.out _ _ (HK.out _ V9) (fun hHeld5=>?_);clear hK K
  try simp only[Act.put,Zt,Zs,Zr]
  refine wpAnyH_done (by kernel_rfl) ?_ _
  go_wp2_with fail
  go_ret
  refine⟨rfl,?_,HB8.setCell (p:=⟨g,5,none⟩) hgl.2 _⟩;rw[hYd.out];exact hD8
 have h2':(Q != 0)=true:=by simp[h2]
 have hE0:Q=E:=HEq.out;have hYd:d=Y:=by rw[←HY.out];unfold playV;rw[if_neg (by rw[HE.out,←hE0];exact h2)]
 subst hYd;subst hE0;clear h2
 go_wp2_with fail
 go_ret
 exact⟨rfl,D4.out,HB4.out⟩
end Go.Proofs.YtfhecilhcofboaaGreat
/- node.knowSelf, node.forget. -/
namespace Go.Proofs.YtfhecilhcofboaaGreat
open Go.RowKit

set_option maxRecDepth 100000 in
set_option maxHeartbeats 2000000 in
theorem knowSelf_node(B g:Nat)(d:NdS)(w:World)(hd:NdV w B g d)(h0:0≤d.self)(h1:d.self<d.known.length)(h6:d.st.clock.length≤6):
  Calls Tryz.prog 38 #[.pointer (some ⟨g,0,none⟩)] w fun e w'=>e=.returned (.tuple #[])∧NdV w' B g (selfN d)∧Below B w w':=by
 obtain⟨a1,c1,a2,c2,a3,c3,a4,c4,a5,c5,a6,c6,hbox,-,hc,-,-,hk⟩:=hd.form;obtain⟨gk,rfl,-,hkB,hkl,hcell⟩:=hk.block (by omega);have hgl:=hd.lt;have HX:=Za hbox;have HD:=Za hd;have HC:=Za hc;obtain⟨k,hks⟩:∃k:Nat,d.self=k:=⟨d.self.toNat,by omega⟩;rw[hks]at hbox h1;have hkt:d.self.toNat=k:=by omega
 have hlk:k<d.known.length:=by omega
 have HK:Hid (∀w',Box w' g [.int .i64 (k:Int),.slice a1 d.st.clock.length c1,.slice a2 d.st.lives.length c2,.slice a3 d.st.tals.length c3,.slice a4 d.base.length c4,.slice a5 d.log.length c5,.slice (some ⟨gk,0,none⟩) d.known.length c6] 31→w'.cell? ⟨g,0,none⟩=some (.int .i64 (k:Int))∧w'.cell? ⟨g,1,none⟩=some (.slice a1 d.st.clock.length c1)∧w'.cell? ⟨g,6,none⟩=some (.slice (some ⟨gk,0,none⟩) d.known.length c6)):=fun w' h=>⟨h.get 0 rfl,h.get 1 rfl,h.get 6 rfl⟩;have HBX:=Za hbox;have HHK:=Za hk;have HKS:=Za hks;have hkl':=hk.kn.len_le;clear hbox hd hc hk hcell hks h0
 go_enter Tryz.func38,Tryz.ntmps38
 go_wp2_with fail
 refine wp_region_held_drew (S:=fun w'=>w'.cell? ⟨g,0,none⟩=some (.int .i64 (k:Int))∧w'.cell? ⟨g,1,none⟩=some (.slice a1 d.st.clock.length c1)∧w'.cell? ⟨g,6,none⟩=some (.slice (some ⟨gk,0,none⟩) d.known.length c6)) (by kernel_rfl) (HK.out _ HBX.out) (fun hHeld=>?_);obtain⟨wd,HWD⟩:∃wd,Hid (w.drew=wd):=⟨_,rfl⟩;have hg0:Zh w wd:=by rw[←HWD.out];exact Zf (Zi w)
 rw[HWD.out]at hHeld ⊢;refine ty 0 (.pointer (some ⟨g,0,none⟩)) ?_;refine ty 1 (.pointer (some ⟨g,0,none⟩)) ?_;refine ty 2 (.pointer (some ⟨g,6,none⟩)) ?_;refine ty 3 (.slice (some ⟨gk,0,none⟩) d.known.length c6) ?_;refine ty 4 (.pointer (some ⟨g,0,none⟩)) ?_;refine ty 5 (.pointer (some ⟨g,0,none⟩)) ?_;refine ty 6 (.pointer (some ⟨g,0,none⟩)) ?_;refine ty 7 (.int .i64 (k:Int)) ?_;refine ty 8 (.pointer (some ⟨g,0,none⟩)) ?_;refine ty 9 (.pointer (some ⟨g,0,none⟩)) ?_;refine ty 10 (.pointer (some ⟨g,1,none⟩)) ?_;refine ty 11 (.pointer (some ⟨g,1,none⟩)) ?_;refine ty 12 (.slice a1 d.st.clock.length c1) ?_;refine wr 13 fun K hK=>?_;go_simp;refine(Od _ d.st.clock _ (HC.row.below hg0 (nlr _)) (by omega)).mono ?_;rintro e w2 ⟨v2,rfl,ho2,hb2⟩;obtain⟨x2,y2,hv2,-⟩:=ho2.row;subst hv2;have hg2:Zh w w2:=Zd hg0 hb2;have X2:=HBX.below hg2 (nlr _);refine hK.out _ _ (HK.out _ X2) (fun hHeld2=>?_);clear hK K
 try simp only[Act.put,Zt,Zs,Zr]
 have hlk':(k:Int)<(d.known.length:Int):=by omega
 refine ty 14 (.pointer (some ⟨gk,k,none⟩)) ?_;have D2:=HD.below hg2 (nlr _);obtain⟨gk',hgk',-,-,-,hcell2⟩:=(HHK.below hg2 (nlr _)).block (by omega);simp only[Option.some.injEq,Addr.mk.injEq,and_true]at hgk';subst hgk';obtain⟨v0,hc0,hf0⟩:=hcell2 k hlk;have X2':Box w2 g [.int .i64 d.self,.slice a1 d.st.clock.length c1,.slice a2 d.st.lives.length c2,.slice a3 d.st.tals.length c3,.slice a4 d.base.length c4,.slice a5 d.log.length c5,.slice (some ⟨gk,0,none⟩) d.known.length c6] 31:=by rw[HKS.out];exact X2
 have D3:=D2.setKn X2' hlk (ho2.mono (C:=B) (by have:=hg0.size;omega))
 have hne:g≠gk:=by
  intro he;obtain⟨qs,q1,-⟩:=HHK.out;subst he;exact Uv q1.1 HBX.out (by decide) rfl
 have X3:=X2.away (g':=gk) (i:=k) (v:=.slice x2 d.st.clock.length y2) hne;refine wr 15 fun K hK=>?_;go_simp;refine hK.out _ _ (HK.out _ X3) (fun hHeld3=>?_);clear hK K
 try simp only[Act.put,Zt,Zs,Zr]
 refine wpAnyH_done (by kernel_rfl) ?_ _
 go_wp2_with fail
 refine bodyPost_end (results_none rfl _ _ _) rfl ?_;refine⟨rfl,?_,((hg2.mono (by omega)).setCell (p:=⟨gk,k,none⟩) hkB _)⟩;unfold selfN;rw[hkt];exact D3

set_option maxRecDepth 100000 in
set_option maxHeartbeats 2000000 in
theorem forget_node(B g:Nat)(cv:Value)(d:NdS)(c:List Int)(w:World)(hd:NdV w B g d)(hcv:Row w cv c)(hc6:c.length≤6)(hb6:d.base.length≤6)(hsm:∀u ∈ d.log,Small u)(hfew:d.log.length≤300):
  Calls Tryz.prog 56 #[.pointer (some ⟨g,0,none⟩),cv] w fun e w'=>e=.returned (.tuple #[])∧NdV w' B g (Qp d c)∧Below B w w':=by
 obtain⟨a1,c1,a2,c2,a3,c3,a4,c4,a5,c5,a6,c6,hbox,-,-,hb,-,-⟩:=hd.form;obtain⟨a7,c7,rfl,-,-,-⟩:=id hcv;have hgl:=hd.lt;have HX:=Za hbox;have HD:=Za hd;have HB:=Za hb;have HC:=Za hcv;have g4:=hbox.get 4 rfl;clear hbox hd hb hcv
 go_enter Tryz.func56,Tryz.ntmps56
 go_wp2_with fail
 refine(join_clock _ _ d.base c _ HB.row HC.out (by omega) (by omega)).mono ?_;rintro e w1 ⟨v1,rfl,ho1,hb1⟩;obtain⟨x1,y1,hv1,-⟩:=ho1.row;subst hv1;have D1:=HD.below hb1 (nlr _);have X1:=HX.below hb1 (nlr _);have h4:=X1.get 4 rfl;have h5:=X1.get 5 rfl;have f4:=X1.free 4;obtain⟨W2,HW2⟩:∃W2,Hid (w1.setCell ⟨g,4,none⟩ (.slice x1 (joinC d.base c).length y1)=W2):=⟨_,rfl⟩;have D2:=D1.setBase (ho1.mono (C:=B) (by omega));have X2:=X1.set 4 (.slice x1 (joinC d.base c).length y1);have HB2:=(hb1.mono (B':=B) (by omega)).setCell (p:=⟨g,4,none⟩) hgl.2 (.slice x1 (joinC d.base c).length y1);rw[HW2.out]at D2 X2 HB2;have HD2:=Za D2;have HX2:=Za X2;have HHB2:=Za HB2;clear ho1 hb1 D1 X1 g4 D2 X2 HB2
 go_wp2_with fail
 rw[HW2.out];clear h4 h5 f4;obtain⟨cv,lv,tv,bv,uv,kv,he,-,hbase,hlog,-⟩:=HD2.value HX2.out;simp only[Value.agg.injEq,Array.mk.injEq,List.cons.injEq,and_true]at he;obtain⟨-,-,-,-,rfl,rfl,-⟩:=he;have HL:=Za hlog;have HBS:=Za hbase;clear hlog hbase;refine wp_region_held_drew (S:=fun w'=>w'.cell? ⟨g,4,none⟩=some (.slice x1 (joinC d.base c).length y1)) (by kernel_rfl) (HX2.get 4 rfl) (fun hHeld=>?_);obtain⟨wd,HWD⟩:∃wd,Hid (W2.drew=wd):=⟨_,rfl⟩;have hg0:Zh W2 wd:=by rw[←HWD.out];exact Zf (Zi W2)
 rw[HWD.out]at hHeld ⊢;refine ty 0 (.pointer (some ⟨g,0,none⟩)) ?_;refine ty 1 (.pointer (some ⟨g,0,none⟩)) ?_;refine ty 2 (.pointer (some ⟨g,0,none⟩)) ?_;refine ty 3 (.pointer (some ⟨g,5,none⟩)) ?_;refine ty 5 (.pointer (some ⟨g,0,none⟩)) ?_;refine ty 6 (.pointer (some ⟨g,0,none⟩)) ?_;refine ty 7 (.pointer (some ⟨g,4,none⟩)) ?_;refine ty 8 (.slice x1 (joinC d.base c).length y1) ?_;have h5:=(HX2.below hg0 (nlr _)).get 5 rfl;refine wr 4 fun K hK=>?_;go_simp;refine hK.out _ _ hHeld (fun _=>?_);clear hK K h5
 try simp only[Act.put,Zt,Zs,Zr]
 refine wr 9 fun K hK=>?_;go_simp;refine(lacks_own _ _ d.log (joinC d.base c) _ (HL.log.below hg0 (nlr _)) (HBS.row.below hg0 (nlr _)) hsm (by omega)).mono ?_;rintro e w3 ⟨v3,rfl,ho3,hb3⟩;obtain⟨x3,y3,hv3⟩:=ho3.form;subst hv3;have hg3:Zh W2 w3:=Zd hg0 hb3;have D3:=HD2.below hg3 (nlr _);have X3:=HX2.below hg3 (nlr _);have hsz:=HX2.lt;have D4:=D3.setLog (ho3.base (C:=B) (by have:=hg0.size;omega));have X4:=X3.set 5 (.slice x3 (Yc d.log (joinC d.base c)).length y3);have HB4:=(HHB2.trans (hg3.mono (by omega))).setCell (p:=⟨g,5,none⟩) hgl.2 (.slice x3 (Yc d.log (joinC d.base c)).length y3);refine hK.out _ _ (X3.get 4 rfl) (fun hHeld2=>?_);clear hK K
 try simp only[Act.put,Zt,Zs,Zr]
 refine ty 10 (.pointer (some ⟨g,0,none⟩)) ?_;refine ty 11 (.pointer (some ⟨g,5,none⟩)) ?_;have h5:=X3.get 5 rfl;have f5:=X3.free 5;refine wr 12 fun K hK=>?_;go_simp;refine hK.out _ _ (X4.get 4 rfl) (fun hHeld3=>?_);clear hK K
 try simp only[Act.put,Zt,Zs,Zr]
 refine wpAnyH_done (by kernel_rfl) ?_ _
 go_wp2_with fail
 refine bodyPost_end (results_none rfl _ _ _) rfl ?_;exact⟨rfl,D4,HB4⟩
end Go.Proofs.YtfhecilhcofboaaGreat
