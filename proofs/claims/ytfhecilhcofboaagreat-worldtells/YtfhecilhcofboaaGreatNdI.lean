/- node.Issue, node.Prune. -/
import Derived.Test.YtfhecilhcofboaaGreatNdP
namespace Go.Proofs.YtfhecilhcofboaaGreat
open Go.RowKit

theorem Yo.form{w:World}{B:Nat}{v:Value}{d:NdS}(h:Yo w B v d):∃a1 c1 a2 c2 a3 c3 a4 c4 a5 c5 a6 c6,v=.agg #[.int .i64 d.self,.slice a1 d.st.clock.length c1,.slice a2 d.st.lives.length c2,.slice a3 d.st.tals.length c3,.slice a4 d.base.length c4,.slice a5 d.log.length c5,.slice a6 d.known.length c6]:=by
 obtain⟨a1,c1,a2,c2,a3,c3,a4,c4,a5,c5,a6,c6,h1,-⟩:=h.node.form;exact⟨a1,c1,a2,c2,a3,c3,a4,c4,a5,c5,a6,c6,h1⟩

theorem NdV.away{w:World}{B g':Nat}{d:NdS}(h:NdV w B g' d){g:Nat}(hg:g<B)(i:Nat)(x:Value):NdV (w.setCell ⟨g,i,none⟩ x) B g' d:=by
 obtain⟨cv,lv,tv,bv,uv,kv,h0,hB,h1,h2,h3,h4⟩:=h;exact⟨cv,lv,tv,bv,uv,kv,h0.away (by omega),hB,h1.away hg i x,h2.away hg i x,h3.away hg i x,h4.away hg i x⟩
theorem Yo.drew{w:World}{B:Nat}{v:Value}{d:NdS}(h:Yo w B v d):Yo w.drew B v d:=h.below (Zf (Zi w)) (nlr _)
theorem NdV.drew{w:World}{B g:Nat}{d:NdS}(h:NdV w B g d):NdV w.drew B g d:=h.below (Zf (Zi w)) (nlr _)

set_option maxRecDepth 100000 in
set_option maxHeartbeats 4000000 in
theorem issue_node(v uv:Value)(d:NdS)(u:Upd)(w:World)(h:Vp w v d)(hu:Jf w uv u):
  Calls Tryz.prog 10 #[v,uv] w fun e w'=>∃rv,e=.returned (.tuple #[rv,.int .i64 (Ob d u)])∧Yo w' (w.heap.size+3) rv (Ou d u)∧Below w.heap.size w w':=by
 have hin:=h;obtain⟨a1,c1,a2,c2,a3,c3,a4,c4,a5,c5,a6,c6,rfl,-,hcl,-,-,-⟩:=h.form;obtain⟨sv,rfl,hs⟩:=hu;obtain⟨a7,c7,rfl,-,-,-⟩:=id hs;have hb3:=Below.plus (Below.plus (bpl w (.cells #[.int .i64 d.self,.slice a1 d.st.clock.length c1,.slice a2 d.st.lives.length c2,.slice a3 d.st.tals.length c3,.slice a4 d.base.length c4,.slice a5 d.log.length c5,.slice a6 d.known.length c6] 31)) (.cells #[.int .i64 u.author,.slice a7 u.seen.length c7,.int .i64 u.kind,.int .i64 u.key,.int .i64 u.item] 33)) (.cells #[.int .i64 0,.slice none 0 0,.slice none 0 0,.slice none 0 0,.slice none 0 0,.slice none 0 0,.slice none 0 0] 31);have G0:=Za (((Box.new w [.int .i64 d.self,.slice a1 d.st.clock.length c1,.slice a2 d.st.lives.length c2,.slice a3 d.st.tals.length c3,.slice a4 d.base.length c4,.slice a5 d.log.length c5,.slice a6 d.known.length c6] 31).plus (.cells #[.int .i64 u.author,.slice a7 u.seen.length c7,.int .i64 u.kind,.int .i64 u.key,.int .i64 u.item] 33)).plus (.cells #[.int .i64 0,.slice none 0 0,.slice none 0 0,.slice none 0 0,.slice none 0 0,.slice none 0 0,.slice none 0 0] 31));have V0:=Za ((Box.new (w.alloc (.cells #[.int .i64 d.self,.slice a1 d.st.clock.length c1,.slice a2 d.st.lives.length c2,.slice a3 d.st.tals.length c3,.slice a4 d.base.length c4,.slice a5 d.log.length c5,.slice a6 d.known.length c6] 31)) [.int .i64 u.author,.slice a7 u.seen.length c7,.int .i64 u.kind,.int .i64 u.key,.int .i64 u.item] 33).plus (.cells #[.int .i64 0,.slice none 0 0,.slice none 0 0,.slice none 0 0,.slice none 0 0,.slice none 0 0,.slice none 0 0] 31));have R0:=Za (Box.new ((w.alloc (.cells #[.int .i64 d.self,.slice a1 d.st.clock.length c1,.slice a2 d.st.lives.length c2,.slice a3 d.st.tals.length c3,.slice a4 d.base.length c4,.slice a5 d.log.length c5,.slice a6 d.known.length c6] 31)).alloc (.cells #[.int .i64 u.author,.slice a7 u.seen.length c7,.int .i64 u.kind,.int .i64 u.key,.int .i64 u.item] 33)) [.int .i64 0,.slice none 0 0,.slice none 0 0,.slice none 0 0,.slice none 0 0,.slice none 0 0,.slice none 0 0] 31);simp only[World.size_alloc]at V0 R0;have CW:=Za hcl;have D0:=Za (hin.below hb3 (nlr _));have HB0:=Za hb3;clear h hin hcl hs hb3;obtain⟨W1,HW1⟩:∃W1,Hid (((w.alloc (.cells #[.int .i64 d.self,.slice a1 d.st.clock.length c1,.slice a2 d.st.lives.length c2,.slice a3 d.st.tals.length c3,.slice a4 d.base.length c4,.slice a5 d.log.length c5,.slice a6 d.known.length c6] 31)).alloc (.cells #[.int .i64 u.author,.slice a7 u.seen.length c7,.int .i64 u.kind,.int .i64 u.key,.int .i64 u.item] 33)).alloc (.cells #[.int .i64 0,.slice none 0 0,.slice none 0 0,.slice none 0 0,.slice none 0 0,.slice none 0 0,.slice none 0 0] 31)=W1):=⟨_,rfl⟩;have hsz:Hid (W1.heap.size=w.heap.size+1+1+1):=by unfold Hid;rw[←HW1.out,World.size_alloc,World.size_alloc,World.size_alloc]
 rw[HW1.out]at G0 V0 R0 D0 HB0;obtain⟨E,HE⟩:∃E,Hid (Ob d u=E):=⟨_,rfl⟩;obtain⟨X,HX⟩:∃X,Hid (Ou d u=X):=⟨_,rfl⟩;obtain⟨N,HN⟩:∃N,Hid (Vi d=N):=⟨_,rfl⟩;rw[HE.out,HX.out];obtain⟨g0,g1,g2,g3,g4,g5,g6⟩:=G0.c7
 go_enter Tryz.func10,Tryz.ntmps10
 go_upto_region 1 with fail
 rw[HW1.out]
 go_wp2_with fail
 refine(Qv _ d _ D0.out).mono ?_;rintro e w2 ⟨rfl,hb2⟩;rw[HN.out];have G2:=Za (G0.below hb2 (nlr _));have V2:=Za (V0.below hb2 (nlr _));have R2:=Za (R0.below hb2 (nlr _));have D2:=Za (D0.below hb2 (nlr _));have HB2:=Za (Zb HB0.out hb2);have hs2:Hid (w.heap.size+3≤w2.heap.size):=by have:=hb2.size;have:=hsz.out;unfold Hid;omega
 clear G0 V0 R0 D0 HB0 hb2 g0 g1 g2 g3 g4 g5 g6
 by_cases hN:N=0
 ·have hN':(N != 0)=false:=by simp[hN]
  have hNz:Vi d=0:=by rw[HN.out];exact hN
  have HF:=Za (yF hNz);have HOK:=Za (Vk.1 hNz);have HEP:Hid (Qi d (ownU d u)=E):=by unfold Hid;rw[←HE.out];unfold Ob;rw[if_pos hNz]
  clear hN hNz;obtain⟨g0,g1,g2,g3,g4,g5,g6⟩:=G2.c7
  go_wp2_with fail
  refine(copy_node _ d _ D2.out HF.out).mono ?_;rintro e w3 ⟨rv,rfl,ho3,hb3⟩;obtain⟨x1,y1,x2,y2,x3,y3,x4,y4,x5,y5,x6,y6,rfl⟩:=ho3.form;have N4:=NdV.new (ho3.base (C:=w2.heap.size) (by omega)) hb3.size;have hbp:=Zb hb3 (bpl w3 (.cells #[.int .i64 d.self,.slice x1 d.st.clock.length y1,.slice x2 d.st.lives.length y2,.slice x3 d.st.tals.length y3,.slice x4 d.base.length y4,.slice x5 d.log.length y5,.slice x6 d.known.length y6] 31));obtain⟨W4,HW4⟩:∃W4,Hid (w3.alloc (.cells #[.int .i64 d.self,.slice x1 d.st.clock.length y1,.slice x2 d.st.lives.length y2,.slice x3 d.st.tals.length y3,.slice x4 d.base.length y4,.slice x5 d.log.length y5,.slice x6 d.known.length y6] 31)=W4):=⟨_,rfl⟩;rw[HW4.out]at N4 hbp;have G4:=G2.below hbp (nlr _);have V4:=V2.below hbp (nlr _);have R4:=Za (R2.below hbp (nlr _));have HB4:=Za (Zb HB2.out hbp);clear g0 g1 g2 g3 g4 g5 g6 ho3 hb3
  go_upto_region 5 with fail
  rw[HW4.out];obtain⟨g0,g1⟩:=G4.c2;obtain⟨v0,v1⟩:=V4.c2;have f0:=V4.free 0;have f1:=V4.free 1;have V5:=Za ((V4.set 0 (.int .i64 d.self)).set 1 (.slice a1 d.st.clock.length c1)).drew;have N5:=Za (((N4.away (g:=w.heap.size+1) (by have:=hs2.out;omega) 0 (.int .i64 d.self)).away (g:=w.heap.size+1) (by have:=hs2.out;omega) 1 (.slice a1 d.st.clock.length c1)).drew);have R5:=Za ((R4.away (g':=w.heap.size+1) (i:=0) (v:=.int .i64 d.self) (by omega)).away (g':=w.heap.size+1) (i:=1) (v:=.slice a1 d.st.clock.length c1) (by omega)).drew;have HB5:=Za (((HB4.setCell (p:=⟨w.heap.size+1,0,none⟩) (by show w.heap.size≤w.heap.size+1;omega) (.int .i64 d.self)).setCell (p:=⟨w.heap.size+1,1,none⟩) (by show w.heap.size≤w.heap.size+1;omega) (.slice a1 d.st.clock.length c1)).drew);clear G4 V4 N4 R4 HB4 hbp
  go_region
  obtain⟨W5,HW5⟩:∃W5,Hid (((W4.setCell ⟨w.heap.size+1,0,none⟩ (.int .i64 d.self)).setCell ⟨w.heap.size+1,1,none⟩ (.slice a1 d.st.clock.length c1)).drew=W5):=⟨_,rfl⟩;rw[HW5.out]at V5 N5 R5 HB5;clear g0 g1 v0 v1 f0 f1;obtain⟨v0,v1,v2,v3,v4⟩:=V5.c5
  go_upto_region 6 with fail
  rw[HW5.out]
  go_wp2_with fail
  refine(play_node w2.heap.size w3.heap.size _ d (ownU d u) W5 N5.out (fun w' hw'=>⟨_,rfl,CW.below (HB5.trans (hw'.mono (by have:=hs2.out;omega))) (nlr _)⟩)).mono ?_;rintro e w6 ⟨rfl,hn6,hb6⟩;rw[HEP.out];have R6:=R5.low hb6 (by have:=hs2.out;omega);have HB6:=HB5.trans (hb6.mono (by have:=hs2.out;omega));clear v0 v1 v2 v3 v4 V5 N5 R5 HB5
  by_cases hE:E=0
  ·have hE':(E != 0)=false:=by simp[hE]
   have hPz:Qi d (ownU d u)=0:=by rw[HEP.out];exact hE
   have hX:X=selfN (zL d (ownU d u)):=by rw[←HX.out];unfold Ou;rw[if_pos (by rw[HE.out];exact hE)]
   have hV:playV d (ownU d u)=zL d (ownU d u):=by unfold playV;rw[if_pos hPz]
   obtain⟨hM,-⟩:=HOK.toOkM.play hPz;rw[hV]at hn6;obtain⟨P,HP⟩:∃P,Hid (zL d (ownU d u)=P):=⟨_,rfl⟩;rw[HP.out]at hn6 hM hX;have hk1:=hM.kl;have hk2:=hM.s0;have hk3:=hM.s1;have hk4:=hM.len;have hk5:=Zm.1 hM.st.clock;have HXX:=Za hX;clear hX;have HN6:=Za hn6;have HR6:=Za R6;have HHB6:=Za HB6;have HE0:=Za hE;clear hn6 hM hV hPz R6 HB6 hE hb6
   go_wp2_with fail
   refine(knowSelf_node w2.heap.size w3.heap.size P _ HN6.out hk2 (by omega) (by omega)).mono ?_;rintro e w7 ⟨rfl,hn7,hb7⟩;rw[←HXX.out]at hn7;obtain⟨q1,p1,q2,p2,q3,p3,q4,p4,q5,p5,q6,p6,hbx,-⟩:=hn7.form;have R7:=HR6.low hb7 (by have:=hs2.out;omega);have HB7:=HHB6.trans (hb7.mono (by have:=hs2.out;omega));have hv7:=(hn7.value hbx).base (C:=w.heap.size+3) hs2.out;obtain⟨z0,z1,z2,z3,z4,z5,z6⟩:=hbx.c7;have r0:=R7.get 0 rfl;have e0:=R7.free 0;have r1:=R7.get 1 rfl;have e1:=R7.free 1;have r2:=R7.get 2 rfl;have e2:=R7.free 2;have r3:=R7.get 3 rfl;have e3:=R7.free 3;have r4:=R7.get 4 rfl;have e4:=R7.free 4;have r5:=R7.get 5 rfl;have e5:=R7.free 5;have r6:=R7.get 6 rfl;have e6:=R7.free 6;have HR7:=Za R7;have HHB7:=Za HB7;have HV7:=Za hv7;clear hn7 hb7 hbx R7 HB7 hv7 hk1 hk2 hk3 hk4 hk5;have hE0:=HE0.out;subst hE0
   go_wp2_with fail
   have hR:=(((((((HR7.out).set 0 (.int .i64 X.self)).set 1 (.slice q1 X.st.clock.length p1)).set 2 (.slice q2 X.st.lives.length p2)).set 3 (.slice q3 X.st.tals.length p3)).set 4 (.slice q4 X.base.length p4)).set 5 (.slice q5 X.log.length p5)).set 6 (.slice q6 X.known.length p6);have hV:=(((((((HV7.out).away (g:=w.heap.size+1+1) (by omega) 0 (.int .i64 X.self)).away (g:=w.heap.size+1+1) (by omega) 1 (.slice q1 X.st.clock.length p1)).away (g:=w.heap.size+1+1) (by omega) 2 (.slice q2 X.st.lives.length p2)).away (g:=w.heap.size+1+1) (by omega) 3 (.slice q3 X.st.tals.length p3)).away (g:=w.heap.size+1+1) (by omega) 4 (.slice q4 X.base.length p4)).away (g:=w.heap.size+1+1) (by omega) 5 (.slice q5 X.log.length p5)).away (g:=w.heap.size+1+1) (by omega) 6 (.slice q6 X.known.length p6);refine bodyPost_ret (Zc rfl _ _ (w.heap.size+1+1) 31 _ (0,0) _ rfl (hR) Tryz.underlying31 rfl Tryz.sizeNode) rfl ⟨_,rfl,(hV),?_⟩
   exact((((((((HHB7.out).setCell (by show w.heap.size≤w.heap.size+1+1;omega) _).setCell (by show w.heap.size≤w.heap.size+1+1;omega) _).setCell (by show w.heap.size≤w.heap.size+1+1;omega) _).setCell (by show w.heap.size≤w.heap.size+1+1;omega) _).setCell (by show w.heap.size≤w.heap.size+1+1;omega) _).setCell (by show w.heap.size≤w.heap.size+1+1;omega) _).setCell (by show w.heap.size≤w.heap.size+1+1;omega) _)
  have hE':(E != 0)=true:=by simp[hE]
  have hX:X=Yu:=by rw[←HX.out];unfold Ou;rw[if_neg (by rw[HE.out];exact hE)]
  subst hX;have r0:=R6.get 0 rfl;have e0:=R6.free 0;have r1:=R6.get 1 rfl;have e1:=R6.free 1;have r2:=R6.get 2 rfl;have e2:=R6.free 2;have r3:=R6.get 3 rfl;have e3:=R6.free 3;have r4:=R6.get 4 rfl;have e4:=R6.free 4;have r5:=R6.get 5 rfl;have e5:=R6.free 5;have r6:=R6.get 6 rfl;have e6:=R6.free 6;have HR6:=Za R6;have HHB6:=Za HB6;clear hn6 hb6 R6 HB6
  go_wp2_with fail
  have hR:=(((((((HR6.out).set 0 (.int .i64 0)).set 1 (.slice none 0 0)).set 2 (.slice none 0 0)).set 3 (.slice none 0 0)).set 4 (.slice none 0 0)).set 5 (.slice none 0 0)).set 6 (.slice none 0 0);have hV:=((((((((Yo.none w6 (w.heap.size+3))).away (g:=w.heap.size+1+1) (by omega) 0 (.int .i64 0)).away (g:=w.heap.size+1+1) (by omega) 1 (.slice none 0 0)).away (g:=w.heap.size+1+1) (by omega) 2 (.slice none 0 0)).away (g:=w.heap.size+1+1) (by omega) 3 (.slice none 0 0)).away (g:=w.heap.size+1+1) (by omega) 4 (.slice none 0 0)).away (g:=w.heap.size+1+1) (by omega) 5 (.slice none 0 0)).away (g:=w.heap.size+1+1) (by omega) 6 (.slice none 0 0);refine bodyPost_ret (Zc rfl _ _ (w.heap.size+1+1) 31 _ (0,0) _ rfl (hR) Tryz.underlying31 rfl Tryz.sizeNode) rfl ⟨_,rfl,(hV),?_⟩
  exact((((((((HHB6.out).setCell (by show w.heap.size≤w.heap.size+1+1;omega) _).setCell (by show w.heap.size≤w.heap.size+1+1;omega) _).setCell (by show w.heap.size≤w.heap.size+1+1;omega) _).setCell (by show w.heap.size≤w.heap.size+1+1;omega) _).setCell (by show w.heap.size≤w.heap.size+1+1;omega) _).setCell (by show w.heap.size≤w.heap.size+1+1;omega) _).setCell (by show w.heap.size≤w.heap.size+1+1;omega) _)
 have hN':(N != 0)=true:=by simp[hN]
 have hE:N=E:=by rw[←HE.out,←HN.out];unfold Ob;rw[if_neg (by rw[HN.out];exact hN)]
 have hX:X=Yu:=by rw[←HX.out];unfold Ou;rw[if_neg (by rw[HE.out,←hE];exact hN)]
 subst hX;subst hE;have r0:=R2.get 0 rfl;have e0:=R2.free 0;have r1:=R2.get 1 rfl;have e1:=R2.free 1;have r2:=R2.get 2 rfl;have e2:=R2.free 2;have r3:=R2.get 3 rfl;have e3:=R2.free 3;have r4:=R2.get 4 rfl;have e4:=R2.free 4;have r5:=R2.get 5 rfl;have e5:=R2.free 5;have r6:=R2.get 6 rfl;have e6:=R2.free 6;clear hN
 go_wp2_with fail
 have hR:=(((((((R2.out).set 0 (.int .i64 0)).set 1 (.slice none 0 0)).set 2 (.slice none 0 0)).set 3 (.slice none 0 0)).set 4 (.slice none 0 0)).set 5 (.slice none 0 0)).set 6 (.slice none 0 0);have hV:=((((((((Yo.none w2 (w.heap.size+3))).away (g:=w.heap.size+1+1) (by omega) 0 (.int .i64 0)).away (g:=w.heap.size+1+1) (by omega) 1 (.slice none 0 0)).away (g:=w.heap.size+1+1) (by omega) 2 (.slice none 0 0)).away (g:=w.heap.size+1+1) (by omega) 3 (.slice none 0 0)).away (g:=w.heap.size+1+1) (by omega) 4 (.slice none 0 0)).away (g:=w.heap.size+1+1) (by omega) 5 (.slice none 0 0)).away (g:=w.heap.size+1+1) (by omega) 6 (.slice none 0 0);refine bodyPost_ret (Zc rfl _ _ (w.heap.size+1+1) 31 _ (0,0) _ rfl (hR) Tryz.underlying31 rfl Tryz.sizeNode) rfl ⟨_,rfl,(hV),?_⟩
 exact((((((((HB2.out).setCell (by show w.heap.size≤w.heap.size+1+1;omega) _).setCell (by show w.heap.size≤w.heap.size+1+1;omega) _).setCell (by show w.heap.size≤w.heap.size+1+1;omega) _).setCell (by show w.heap.size≤w.heap.size+1+1;omega) _).setCell (by show w.heap.size≤w.heap.size+1+1;omega) _).setCell (by show w.heap.size≤w.heap.size+1+1;omega) _).setCell (by show w.heap.size≤w.heap.size+1+1;omega) _)
end Go.Proofs.YtfhecilhcofboaaGreat
/- node.Prune. -/
namespace Go.Proofs.YtfhecilhcofboaaGreat
open Go.RowKit

theorem meet_few{xs ys:List Int}(h:xs.length≤6)(h':ys.length≤6):(Vt xs ys).length≤6:=by
 rw[Ox];unfold Vq
 split <;> omega

set_option maxRecDepth 100000 in
set_option maxHeartbeats 4000000 in
theorem prune_node(v:Value)(d:NdS)(w:World)(h:Vp w v d):
  Calls Tryz.prog 17 #[v] w fun e w'=>∃rv,e=.returned (.tuple #[rv,.int .i64 (Vi d)])∧Yo w' (w.heap.size+2) rv (yM d)∧Below w.heap.size w w':=by
 have hin:=h;obtain⟨a1,c1,a2,c2,a3,c3,a4,c4,a5,c5,a6,c6,rfl,-,hcl,-,-,hkn⟩:=h.form;have hb3:=Below.plus (bpl w (.cells #[.int .i64 d.self,.slice a1 d.st.clock.length c1,.slice a2 d.st.lives.length c2,.slice a3 d.st.tals.length c3,.slice a4 d.base.length c4,.slice a5 d.log.length c5,.slice a6 d.known.length c6] 31)) (.cells #[.int .i64 0,.slice none 0 0,.slice none 0 0,.slice none 0 0,.slice none 0 0,.slice none 0 0,.slice none 0 0] 31);have G0:=Za ((Box.new w [.int .i64 d.self,.slice a1 d.st.clock.length c1,.slice a2 d.st.lives.length c2,.slice a3 d.st.tals.length c3,.slice a4 d.base.length c4,.slice a5 d.log.length c5,.slice a6 d.known.length c6] 31).plus (.cells #[.int .i64 0,.slice none 0 0,.slice none 0 0,.slice none 0 0,.slice none 0 0,.slice none 0 0,.slice none 0 0] 31));have R0:=Za (Box.new (w.alloc (.cells #[.int .i64 d.self,.slice a1 d.st.clock.length c1,.slice a2 d.st.lives.length c2,.slice a3 d.st.tals.length c3,.slice a4 d.base.length c4,.slice a5 d.log.length c5,.slice a6 d.known.length c6] 31)) [.int .i64 0,.slice none 0 0,.slice none 0 0,.slice none 0 0,.slice none 0 0,.slice none 0 0,.slice none 0 0] 31);simp only[World.size_alloc]at R0;have CW:=Za hcl;have KW:=Za hkn;have D0:=Za (hin.below hb3 (nlr _));have HB0:=Za hb3;clear h hin hcl hkn hb3;obtain⟨W1,HW1⟩:∃W1,Hid ((w.alloc (.cells #[.int .i64 d.self,.slice a1 d.st.clock.length c1,.slice a2 d.st.lives.length c2,.slice a3 d.st.tals.length c3,.slice a4 d.base.length c4,.slice a5 d.log.length c5,.slice a6 d.known.length c6] 31)).alloc (.cells #[.int .i64 0,.slice none 0 0,.slice none 0 0,.slice none 0 0,.slice none 0 0,.slice none 0 0,.slice none 0 0] 31)=W1):=⟨_,rfl⟩;have hsz:Hid (W1.heap.size=w.heap.size+1+1):=by unfold Hid;rw[←HW1.out,World.size_alloc,World.size_alloc]
 rw[HW1.out]at G0 R0 D0 HB0;obtain⟨X,HX⟩:∃X,Hid (yM d=X):=⟨_,rfl⟩;obtain⟨N,HN⟩:∃N,Hid (Vi d=N):=⟨_,rfl⟩;rw[HN.out,HX.out];obtain⟨g0,g1,g2,g3,g4,g5,g6⟩:=G0.c7
 go_enter Tryz.func17,Tryz.ntmps17
 go_upto_region 1 with fail
 rw[HW1.out]
 go_wp2_with fail
 refine(Qv _ d _ D0.out).mono ?_;rintro e w2 ⟨rfl,hb2⟩;rw[HN.out];have G2:=Za (G0.below hb2 (nlr _));have R2:=Za (R0.below hb2 (nlr _));have D2:=Za (D0.below hb2 (nlr _));have HB2:=Za (Zb HB0.out hb2);have hs2:Hid (w.heap.size+2≤w2.heap.size):=by have:=hb2.size;have:=hsz.out;unfold Hid;omega
 clear G0 R0 D0 HB0 hb2 g0 g1 g2 g3 g4 g5 g6
 by_cases hN:N=0
 ·have hN':(N != 0)=false:=by simp[hN]
  have hNz:Vi d=0:=by rw[HN.out];exact hN
  have HF:=Za (yF hNz);have HXX:Hid (Qp d (allC d)=X):=by unfold Hid;rw[←HX.out];unfold yM;rw[if_pos hNz]
  have HN0:=Za hN;clear hN hNz;obtain⟨g0,g1,g2,g3,g4,g5,g6⟩:=G2.c7
  go_wp2_with fail
  refine(copy_node _ d _ D2.out HF.out).mono ?_;rintro e w3 ⟨rv,rfl,ho3,hb3⟩;obtain⟨x1,y1,x2,y2,x3,y3,x4,y4,x5,y5,x6,y6,rfl⟩:=ho3.form;have N4:=NdV.new (ho3.base (C:=w2.heap.size) (by omega)) hb3.size;have hbp:=Zb hb3 (bpl w3 (.cells #[.int .i64 d.self,.slice x1 d.st.clock.length y1,.slice x2 d.st.lives.length y2,.slice x3 d.st.tals.length y3,.slice x4 d.base.length y4,.slice x5 d.log.length y5,.slice x6 d.known.length y6] 31));obtain⟨W4,HW4⟩:∃W4,Hid (w3.alloc (.cells #[.int .i64 d.self,.slice x1 d.st.clock.length y1,.slice x2 d.st.lives.length y2,.slice x3 d.st.tals.length y3,.slice x4 d.base.length y4,.slice x5 d.log.length y5,.slice x6 d.known.length y6] 31)=W4):=⟨_,rfl⟩;rw[HW4.out]at N4 hbp;have G4:=Za (G2.below hbp (nlr _));have R4:=Za (R2.below hbp (nlr _));have HB4:=Za (Zb HB2.out hbp);have HN4:=Za N4;clear g0 g1 g2 g3 g4 g5 g6 ho3 hb3 N4 hbp;have h1:=G4.get 1 rfl;have h6:=G4.get 6 rfl;have hkl:=KW.len_le
  go_upto_region 5 with fail
  rw[HW4.out]
  go_wp2_with fail
  clear h1 h6;have C4:Hid (Row W4 (.slice a1 d.st.clock.length c1) ((d.known.take 0).foldl Vt d.st.clock)):=CW.below HB4.out (nlr _);have hc6:=HF.clock
  go_loopw [6,23] (fun c i wr=>∃k:Nat,k≤d.known.length∧i=.int .i64 k∧Hid (Row wr c ((d.known.take k).foldl Vt d.st.clock))∧Hid (((d.known.take k).foldl Vt d.st.clock).length≤6)∧Hid (Below W4.heap.size W4 wr)) (fun _ i _=>d.known.length - (intOf i).toNat)
  case atStart=>exact⟨0,Nat.zero_le _,rfl,C4,Za hc6,Za (Below.refl _ _)⟩
  obtain⟨k,hk,rfl,C20,H6,HB20⟩:=hrel;obtain⟨w20,rfl⟩:∃w20,w20=wr:=⟨wr,rfl⟩;clear C4;have HBw:=Za (Zb HB4.out HB20.out);obtain⟨F,HF0⟩:∃F,Hid ((d.known.take k).foldl Vt d.st.clock=F):=⟨_,rfl⟩;rw[HF0.out]at C20 H6
  by_cases hlt:k<d.known.length
  ·obtain⟨x,hx⟩:∃x,d.known[k]? =some x:=⟨_,List.getElem?_eq_getElem hlt⟩;have hx6:=HF.known x (List.mem_of_getElem? hx);obtain⟨b,off,a7,c7,hadr,hcell,hrow⟩:=KW.at hx;subst hadr;obtain⟨aF,cF,hcF,-⟩:=C20.out;subst hcF;have hc1:=(HBw.cell (p:=⟨b,off+k,none⟩) (World.block_lt_of_cell? w _ hcell)).trans hcell;have X21:=Za (hrow.below HBw.out (nlr _));have hlt':(k:Int)<(d.known.length:Int):=by omega
   have HTK:Hid ((d.known.take (k+1)).foldl Vt d.st.clock=Vt F x):=by unfold Hid;rw[List.take_add_one,hx];simp only[Option.toList_some,List.foldl_append,List.foldl_cons,List.foldl_nil,HF0.out]
   have h66:=H6.out;clear hcell hrow hx
   go_wp2_with fail
   refine(meet_clock _ _ F x _ C20.out X21.out (by omega) (by omega)).mono ?_;rintro e w22 ⟨v22,rfl,ho22,hb22⟩;have HB22:=Za (Zb HB20.out hb22);have C22:=Za ho22.row;have H22:=Za (meet_few h66 hx6);clear ho22 hb22 hc1
   go_wp2_with fail
   go_roundw
   case rel=>exact⟨k+1,by omega,by go_num,by rw[HTK.out];exact C22,by rw[HTK.out];exact H22,HB22⟩
   case measure=>simp[intOf];omega
  have hkl2:d.known.take k=d.known:=List.take_of_length_le (by omega);have hlt':¬(k:Int)<(d.known.length:Int):=by omega
  have HFF:Hid (allC d=F):=by unfold Hid;rw[←HF0.out,hkl2];rfl
  obtain⟨aF,cF,hcF,-⟩:=C20.out;subst hcF;have N20:=Za (HN4.below HB20.out (nlr _));have R20:=Za (R4.below HB20.out (nlr _));clear hkl2
  go_wp2_with fail
  refine(forget_node w2.heap.size w3.heap.size _ d F _ N20.out C20.out H6.out HF.base HF.small HF.few).mono ?_;rintro e w21 ⟨rfl,hn21,hb21⟩;rw[←HFF.out,HXX.out]at hn21;obtain⟨q1,p1,q2,p2,q3,p3,q4,p4,q5,p5,q6,p6,hbx,-⟩:=hn21.form;have R21:=R20.low hb21 (by have:=hs2.out;omega);have HB21:=HBw.trans (hb21.mono (by have:=hs2.out;omega));have hv21:=(hn21.value hbx).base (C:=w.heap.size+2) hs2.out;obtain⟨z0,z1,z2,z3,z4,z5,z6⟩:=hbx.c7;have r0:=R21.get 0 rfl;have e0:=R21.free 0;have r1:=R21.get 1 rfl;have e1:=R21.free 1;have r2:=R21.get 2 rfl;have e2:=R21.free 2;have r3:=R21.get 3 rfl;have e3:=R21.free 3;have r4:=R21.get 4 rfl;have e4:=R21.free 4;have r5:=R21.get 5 rfl;have e5:=R21.free 5;have r6:=R21.get 6 rfl;have e6:=R21.free 6;have HR21:=Za R21;have HHB21:=Za HB21;have HV21:=Za hv21;have hN0:=HN0.out;subst hN0;clear hn21 hb21 hbx R21 HB21 hv21
  go_wp2_with fail
  have hR:=(((((((HR21.out).set 0 (.int .i64 X.self)).set 1 (.slice q1 X.st.clock.length p1)).set 2 (.slice q2 X.st.lives.length p2)).set 3 (.slice q3 X.st.tals.length p3)).set 4 (.slice q4 X.base.length p4)).set 5 (.slice q5 X.log.length p5)).set 6 (.slice q6 X.known.length p6);have hV:=(((((((HV21.out).away (g:=w.heap.size+1) (by omega) 0 (.int .i64 X.self)).away (g:=w.heap.size+1) (by omega) 1 (.slice q1 X.st.clock.length p1)).away (g:=w.heap.size+1) (by omega) 2 (.slice q2 X.st.lives.length p2)).away (g:=w.heap.size+1) (by omega) 3 (.slice q3 X.st.tals.length p3)).away (g:=w.heap.size+1) (by omega) 4 (.slice q4 X.base.length p4)).away (g:=w.heap.size+1) (by omega) 5 (.slice q5 X.log.length p5)).away (g:=w.heap.size+1) (by omega) 6 (.slice q6 X.known.length p6);refine bodyPost_ret (Zc rfl _ _ (w.heap.size+1) 31 _ (0,0) _ rfl hR Tryz.underlying31 rfl Tryz.sizeNode) rfl ⟨_,rfl,hV,?_⟩
  exact(((((((HHB21.out).setCell (by show w.heap.size≤w.heap.size+1;omega) _).setCell (by show w.heap.size≤w.heap.size+1;omega) _).setCell (by show w.heap.size≤w.heap.size+1;omega) _).setCell (by show w.heap.size≤w.heap.size+1;omega) _).setCell (by show w.heap.size≤w.heap.size+1;omega) _).setCell (by show w.heap.size≤w.heap.size+1;omega) _).setCell (by show w.heap.size≤w.heap.size+1;omega) _
 have hN':(N != 0)=true:=by simp[hN]
 have hX:X=Yu:=by rw[←HX.out];unfold yM;rw[if_neg (by rw[HN.out];exact hN)]
 subst hX;have r0:=R2.get 0 rfl;have e0:=R2.free 0;have r1:=R2.get 1 rfl;have e1:=R2.free 1;have r2:=R2.get 2 rfl;have e2:=R2.free 2;have r3:=R2.get 3 rfl;have e3:=R2.free 3;have r4:=R2.get 4 rfl;have e4:=R2.free 4;have r5:=R2.get 5 rfl;have e5:=R2.free 5;have r6:=R2.get 6 rfl;have e6:=R2.free 6;clear hN
 go_wp2_with fail
 have hR:=(((((((R2.out).set 0 (.int .i64 0)).set 1 (.slice none 0 0)).set 2 (.slice none 0 0)).set 3 (.slice none 0 0)).set 4 (.slice none 0 0)).set 5 (.slice none 0 0)).set 6 (.slice none 0 0);have hV:=((((((((Yo.none w2 (w.heap.size+2))).away (g:=w.heap.size+1) (by omega) 0 (.int .i64 0)).away (g:=w.heap.size+1) (by omega) 1 (.slice none 0 0)).away (g:=w.heap.size+1) (by omega) 2 (.slice none 0 0)).away (g:=w.heap.size+1) (by omega) 3 (.slice none 0 0)).away (g:=w.heap.size+1) (by omega) 4 (.slice none 0 0)).away (g:=w.heap.size+1) (by omega) 5 (.slice none 0 0)).away (g:=w.heap.size+1) (by omega) 6 (.slice none 0 0);refine bodyPost_ret (Zc rfl _ _ (w.heap.size+1) 31 _ (0,0) _ rfl hR Tryz.underlying31 rfl Tryz.sizeNode) rfl ⟨_,rfl,hV,?_⟩
 exact(((((((HB2.out).setCell (by show w.heap.size≤w.heap.size+1;omega) _).setCell (by show w.heap.size≤w.heap.size+1;omega) _).setCell (by show w.heap.size≤w.heap.size+1;omega) _).setCell (by show w.heap.size≤w.heap.size+1;omega) _).setCell (by show w.heap.size≤w.heap.size+1;omega) _).setCell (by show w.heap.size≤w.heap.size+1;omega) _).setCell (by show w.heap.size≤w.heap.size+1;omega) _
end Go.Proofs.YtfhecilhcofboaaGreat
