/- The document's own Step, all of it. -/
import Derived.Test.YtfhecilhcofboaaGreatNwB
namespace Go.Proofs.YtfhecilhcofboaaGreat
open Go.RowKit

set_option maxRecDepth 100000 in
set_option maxHeartbeats 40000000 in
theorem step_ref{S:Nat→Prop}{W:WdS}{g gn gw cn cw:Nat}{gr:Nat→Nat}{v:Value}{o:DoS}(w:World)(h:DwX S w W g gn gw cn cw gr)(hv:IsDo w v o)(hS:∀k,S k→k<w.heap.size):
  Calls Tryz.prog 60 #[.pointer (some ⟨g,0,none⟩),v] w fun e w'=>e=.returned (.int .i64 (Xk W o))∧DwX S w' (stepX W o) g gn gw cn cw gr∧Off (Wt gn gr W.nodes.length) w w':=by
 by_cases k3:o.kind=3
 ·exact step_take w h hv hS k3
 obtain⟨kd,N,T,ua,us,uk,uy,ui⟩:=o;obtain⟨sv,rfl,hsv⟩:=hv
 simp only at hsv k3 ⊢
 obtain⟨a9,c9,rfl,-⟩:=id hsv;obtain⟨w0,HW,P0,D0,HB0,hs0⟩:=lay2 w [.pointer (some ⟨g,0,none⟩)] 102 [.int .i64 kd,.int .i64 N,.int .i64 T,.int .i64 ua,.slice a9 us.length c9,.int .i64 uk,.int .i64 uy,.int .i64 ui] 98;have H0:=Za (h.below HB0.out);have U0:=Za (hsv.below HB0.out (nlr _));have HO:=Za (zM (S:=Wt gn gr W.nodes.length) HB0.out (nlr _));have HS:Hid (∀k,S k→k<w0.heap.size):=fun k hk=>by have:=hS k hk;have:=hs0.out;omega
 have HS0:=Za hS;have hn6:=h.few;obtain⟨E,HE⟩:∃E,Hid (Xk W ⟨kd,N,T,ua,us,uk,uy,ui⟩=E):=⟨_,rfl⟩;obtain⟨X,HX⟩:∃X,Hid (stepX W ⟨kd,N,T,ua,us,uk,uy,ui⟩=X):=⟨_,rfl⟩;rw[HE.out,HX.out];unfold Xk at HE;unfold stepX at HX
 simp only at HE HX
 clear h hsv hS;have p0:=P0.get 0 rfl;have q0:=H0.box.get 0 rfl;obtain⟨d0,d1,d2⟩:=D0.c3
 go_enter Tryz.func60,Tryz.ntmps60
 go_upto_region 1 with fail
 rw[HW.out]
 by_cases k1:kd=1∨kd=5
 ·by_cases hin:isNB W N=true
  rotate_left
  ·have q:N<0∨((0:Int)≤N∧¬N<(W.nodes.length:Int)):=by
    by_cases q:N<0
    ·exact .inl q
    exact .inr ⟨by omega,fun q'=>hin (isNB_iff.2 ⟨by omega,q'⟩)⟩
   obtain rfl:6=E:=by rw[←HE.out];rcases k1 with rfl|rfl <;> simp[changeE,hin]
   obtain rfl:W=X:=by rw[←HX.out];rcases k1 with rfl|rfl <;> simp[yI,hin]
   clear hin
   rcases q with q|⟨q,q'⟩
   ·have q':¬(0:Int)≤N:=by omega
    rcases k1 with rfl|rfl
    all_goals
     go_wp2_with fail
     go_ret
     exact⟨rfl,H0.out,HO.out⟩
   rcases k1 with rfl|rfl
   all_goals
    go_wp2_with fail
    go_ret
    exact⟨rfl,H0.out,HO.out⟩
  obtain⟨k,rfl,hkl⟩:=isNB_nat hin;have HIN:=Za hin;have hk0:(0:Int)≤(k:Int):=by omega
  have hkl':(k:Int)<(W.nodes.length:Int):=by omega
  clear hin;obtain⟨d,HD⟩:∃d,Hid (Xa W k=d):=⟨_,rfl⟩;obtain⟨y1,y2,y3,y4,y5,y6,hF,⟨n0,n1,n2,n3,n4,n5,n6⟩,-⟩:=H0.node hkl;rw[HD.out]at hF n0 HE HX;have F0:=Za hF;obtain⟨E9,HE9⟩:∃E,Hid (Vi d=E):=⟨_,rfl⟩;obtain⟨X9,HX9⟩:∃X,Hid (yM d=X):=⟨_,rfl⟩;obtain⟨X1,HX1⟩:∃X,Hid (Ou d ⟨ua,us,uk,uy,ui⟩=X):=⟨_,rfl⟩;clear hF
  rcases k1 with rfl|rfl
  all_goals
   have t3:=D0.get 3 rfl;have t4:=D0.get 4 rfl;have t5:=D0.get 5 rfl;have t6:=D0.get 6 rfl;have t7:=D0.get 7 rfl;have HK:=Za fun w' (hg:Zh w0 w')=>And.intro (Yi hg p0) (And.intro (Yi hg q0) (And.intro (Yi hg d1) (And.intro (Yi hg n0) (And.intro (Yi hg n1) (And.intro (Yi hg n2) (And.intro (Yi hg n3) (And.intro (Yi hg n4) (And.intro (Yi hg n5) (And.intro (Yi hg n6) (And.intro (Yi hg t3) (And.intro (Yi hg t4) (And.intro (Yi hg t5) (And.intro (Yi hg t6) ((Yi hg t7)))))))))))))));clear t3 t4 t5 t6 t7
   go_upto_region 9 with fail
   clear p0 q0 d0 d1 d2 n0 n1 n2 n3 n4 n5 n6
   go_cut [8,9] (fun s1 s2 wx=>∃g8 a1 c1 a2 c2 a3 c3 a4 c4 a5 c5 a6 c6,s1=.pointer (some ⟨g8,0,none⟩)∧s2=.int .i64 E9∧Hid (Box wx g8 [.int .i64 X9.self,.slice a1 X9.st.clock.length c1,.slice a2 X9.st.lives.length c2,.slice a3 X9.st.tals.length c3,.slice a4 X9.base.length c4,.slice a5 X9.log.length c5,.slice a6 X9.known.length c6] 31)∧Hid (NdF S wx (.slice a1 X9.st.clock.length c1) (.slice a2 X9.st.lives.length c2) (.slice a3 X9.st.tals.length c3) (.slice a4 X9.base.length c4) (.slice a5 X9.log.length c5) (.slice a6 X9.known.length c6) X9)∧Hid (Below w0.heap.size w0 wx)∧w0.heap.size≤g8)
   case first=>
    refine bD (fun _=>false) (fun _=>True) (Zi _) HK.out fun wd hcd hHeld=>?_;refine yD 0 (.pointer (some ⟨g,0,none⟩)) ?_;refine yD 1 (.pointer (some ⟨g,0,none⟩)) ?_;refine yD 2 (.pointer (some ⟨g,0,none⟩)) ?_;refine yD 3 (.slice (some ⟨gn,0,none⟩) W.nodes.length cn) ?_;refine yD 4 (.pointer (some ⟨w.heap.size+1,1,none⟩)) ?_;refine yD 5 (.int .i64 (k:Int)) ?_;refine yD 6 (.pointer (some ⟨gn,k*7,none⟩)) ?_;refine yD 7 (.agg #[.int .i64 d.self,y1,y2,y3,y4,y5,y6]) ?_;refine aD [8,12] (cD (fun K hK=>?_) (cD (fun K hK=>?_) nD))
    ·skip
     go_simp;refine(prune_ref (S:=Us S w0.heap.size wd.heap.size) _ ⟨_,_,_,_,_,_,rfl,F0.more hcd⟩ (mine_lt HS.out (nlr _) hcd.size)).mono ?_;rintro e w_8 ⟨rv,rfl,hv8,hb_8⟩;rw[HE9.out];rw[HX9.out]at hv8;obtain⟨a1,c1,a2,c2,a3,c3,a4,c4,a5,c5,a6,c6,rfl,hF8⟩:=hv8.form;go_simp;have hg_8:Zh w0 w_8:=Zd hcd hb_8;have hH_8:=HK.out _ hg_8;refine kS hK hH_8 ?_;clear hK K;refine yD 9 (.tuple #[.agg #[.int .i64 X9.self,.slice a1 X9.st.clock.length c1,.slice a2 X9.st.lives.length c2,.slice a3 X9.st.tals.length c3,.slice a4 X9.base.length c4,.slice a5 X9.log.length c5,.slice a6 X9.known.length c6],.int .i64 E9]) ?_;refine yD 10 (.agg #[.int .i64 X9.self,.slice a1 X9.st.clock.length c1,.slice a2 X9.st.lives.length c2,.slice a3 X9.st.tals.length c3,.slice a4 X9.base.length c4,.slice a5 X9.log.length c5,.slice a6 X9.known.length c6]) ?_;refine yD 11 (.int .i64 E9) ?_;refine oD 12 fun K hK=>?_;go_simp;obtain⟨w_b,HWw_b,b8_8_12',hb_b,hs_b⟩:=xW w_8 [.int .i64 0,.slice none 0 0,.slice none 0 0,.slice none 0 0,.slice none 0 0,.slice none 0 0,.slice none 0 0] 31;rw[HWw_b.out];have b8_b:=b8_8_12'.out;have hg_b:Zh w0 w_b:=Zd hg_8 hb_b.out;have hH_b:=HK.out _ hg_b;refine kS hK hH_b ?_;clear hK K;refine oD 13 fun K hK=>?_;have hRV:=late7 b8_b hF8 hb_b.out (nlr _);obtain⟨r0,e0,r1,e1,r2,e2,r3,e3,r4,e4,r5,e5,r6,e6⟩:=b8_b.seven;go_simp;obtain⟨w_h,HWS⟩:∃W,Hid ((((((((w_b.setCell ⟨w_8.heap.size,0,none⟩ (.int .i64 X9.self)).setCell ⟨w_8.heap.size,1,none⟩ (.slice a1 X9.st.clock.length c1)).setCell ⟨w_8.heap.size,2,none⟩ (.slice a2 X9.st.lives.length c2)).setCell ⟨w_8.heap.size,3,none⟩ (.slice a3 X9.st.tals.length c3)).setCell ⟨w_8.heap.size,4,none⟩ (.slice a4 X9.base.length c4)).setCell ⟨w_8.heap.size,5,none⟩ (.slice a5 X9.log.length c5)).setCell ⟨w_8.heap.size,6,none⟩ (.slice a6 X9.known.length c6))=W):=⟨_,rfl⟩;rw[HWS.out]at hRV ⊢;have hg_h:Zh w0 w_h:=Zd hg_8 hRV.2.2;have hH_h:=HK.out _ hg_h;refine kS hK hH_h ?_;clear hK K;refine oD 14 fun K hK=>?_;go_simp;have hH_l:=hH_h;refine kS hK hH_l ?_;clear hK K;refine eD ?_
     go_wp2_with fail
     go_meet
     exact⟨_,_,_,_,_,_,_,_,_,_,_,_,_,rfl,rfl,Za hRV.1,Za hRV.2.1,Za hg_h,hg_8.size⟩
    skip
    go_simp;obtain⟨w_12,HWw_12,b8_12',hb_12,hs_12⟩:=xW wd [.int .i64 0,.slice none 0 0,.slice none 0 0,.slice none 0 0,.slice none 0 0,.slice none 0 0,.slice none 0 0] 31;rw[HWw_12.out];have b8_12:=b8_12'.out;have hg_12:Zh w0 w_12:=Zd hcd hb_12.out;have hH_12:=HK.out _ hg_12;refine kS hK hH_12 ?_;clear hK K;refine oD 8 fun K hK=>?_;go_simp;refine(prune_ref (S:=Us S w0.heap.size w_12.heap.size) _ ⟨_,_,_,_,_,_,rfl,F0.more hg_12⟩ (mine_lt HS.out (nlr _) hg_12.size)).mono ?_;rintro e w_c ⟨rv,rfl,hv8,hb_c⟩;rw[HE9.out];rw[HX9.out]at hv8;obtain⟨a1,c1,a2,c2,a3,c3,a4,c4,a5,c5,a6,c6,rfl,hF8⟩:=hv8.form;go_simp;have hg_c:Zh w0 w_c:=Zd hg_12 hb_c;have b8_c:=b8_12.below hb_c (nlr _);have hH_c:=HK.out _ hg_c;refine kS hK hH_c ?_;clear hK K;refine yD 9 (.tuple #[.agg #[.int .i64 X9.self,.slice a1 X9.st.clock.length c1,.slice a2 X9.st.lives.length c2,.slice a3 X9.st.tals.length c3,.slice a4 X9.base.length c4,.slice a5 X9.log.length c5,.slice a6 X9.known.length c6],.int .i64 E9]) ?_;refine yD 10 (.agg #[.int .i64 X9.self,.slice a1 X9.st.clock.length c1,.slice a2 X9.st.lives.length c2,.slice a3 X9.st.tals.length c3,.slice a4 X9.base.length c4,.slice a5 X9.log.length c5,.slice a6 X9.known.length c6]) ?_;refine yD 11 (.int .i64 E9) ?_;refine oD 13 fun K hK=>?_;have hRV:=yN (S:=S) b8_c hF8 hg_c hcd.size (by have:=hs_12.out;omega);obtain⟨r0,e0,r1,e1,r2,e2,r3,e3,r4,e4,r5,e5,r6,e6⟩:=b8_c.seven;go_simp;obtain⟨w_f,HWS⟩:∃W,Hid ((((((((w_c.setCell ⟨wd.heap.size,0,none⟩ (.int .i64 X9.self)).setCell ⟨wd.heap.size,1,none⟩ (.slice a1 X9.st.clock.length c1)).setCell ⟨wd.heap.size,2,none⟩ (.slice a2 X9.st.lives.length c2)).setCell ⟨wd.heap.size,3,none⟩ (.slice a3 X9.st.tals.length c3)).setCell ⟨wd.heap.size,4,none⟩ (.slice a4 X9.base.length c4)).setCell ⟨wd.heap.size,5,none⟩ (.slice a5 X9.log.length c5)).setCell ⟨wd.heap.size,6,none⟩ (.slice a6 X9.known.length c6))=W):=⟨_,rfl⟩;rw[HWS.out]at hRV ⊢;have hg_f:Zh w0 w_f:=hRV.2.2;have hH_f:=HK.out _ hg_f;refine kS hK hH_f ?_;clear hK K;refine oD 14 fun K hK=>?_;go_simp;have hH_j:=hH_f;refine kS hK hH_j ?_;clear hK K;refine eD ?_
    go_wp2_with fail
    go_meet
    exact⟨_,_,_,_,_,_,_,_,_,_,_,_,_,rfl,rfl,Za hRV.1,Za hRV.2.1,Za hg_f,hcd.size⟩
   obtain⟨g8,a1,c1,a2,c2,a3,c3,a4,c4,a5,c5,a6,c6,rfl,rfl,B1,F1,HB1,hge⟩:=hcut;obtain⟨w1,rfl⟩:∃w1,w1=wc:=⟨wc,rfl⟩;have hg8:=Za B1.lt;have d0:=(D0.below HB1.out (nlr _)).get 0 rfl
  ·have HEE:Hid (Ob d ⟨ua,us,uk,uy,ui⟩=E):=by unfold Hid;rw[←HE.out];simp[changeE,HIN.out]
   have HXX:Hid ((if E=0 then Ow W k X1 else W)=X):=by
    unfold Hid;rw[←HX.out,HEE.out,HX1.out]
    by_cases e:E=0 <;> simp[yI,e,HIN.out]
   go_upto_region 11 with fail
   clear d0;refine bD (fun _=>false) (fun _=>True) HB1.out HK.out fun wd hcd hHeld=>?_;have hgd:=Zd HB1.out hcd;have b8_0:=B1.below hcd (nlr _);refine yD 0 (.pointer (some ⟨g,0,none⟩)) ?_;refine yD 1 (.pointer (some ⟨g,0,none⟩)) ?_;refine yD 2 (.pointer (some ⟨g,0,none⟩)) ?_;refine yD 3 (.slice (some ⟨gn,0,none⟩) W.nodes.length cn) ?_;refine yD 4 (.pointer (some ⟨w.heap.size+1,1,none⟩)) ?_;refine yD 5 (.int .i64 (k:Int)) ?_;refine yD 6 (.pointer (some ⟨gn,k*7,none⟩)) ?_;refine yD 7 (.agg #[.int .i64 d.self,y1,y2,y3,y4,y5,y6]) ?_;refine yD 8 (.pointer (some ⟨w.heap.size+1,3,none⟩)) ?_;refine yD 9 (.agg #[.int .i64 ua,.slice a9 us.length c9,.int .i64 uk,.int .i64 uy,.int .i64 ui]) ?_;refine oD 10 fun K hK=>?_;go_simp;refine(issue_ref (S:=Us S w0.heap.size wd.heap.size) (u:=⟨ua,us,uk,uy,ui⟩) _ ⟨_,_,_,_,_,_,rfl,F0.more hgd⟩ ⟨_,rfl,U0.below hgd (nlr _)⟩ (mine_lt HS.out (nlr _) hgd.size)).mono ?_;rintro e w_10 ⟨rv,rfl,hv8,hb_10⟩;rw[HEE.out];rw[HX1.out]at hv8;obtain⟨i1,j1,i2,j2,i3,j3,i4,j4,i5,j5,i6,j6,rfl,hF8⟩:=hv8.form;go_simp;have hg_10:Zh w0 w_10:=Zd hgd hb_10;have b8_10:=b8_0.below hb_10 (nlr _);have hH_10:=HK.out _ hg_10;refine kS hK hH_10 ?_;clear hK K;refine yD 11 (.tuple #[.agg #[.int .i64 X1.self,.slice i1 X1.st.clock.length j1,.slice i2 X1.st.lives.length j2,.slice i3 X1.st.tals.length j3,.slice i4 X1.base.length j4,.slice i5 X1.log.length j5,.slice i6 X1.known.length j6],.int .i64 E]) ?_;refine yD 12 (.agg #[.int .i64 X1.self,.slice i1 X1.st.clock.length j1,.slice i2 X1.st.lives.length j2,.slice i3 X1.st.tals.length j3,.slice i4 X1.base.length j4,.slice i5 X1.log.length j5,.slice i6 X1.known.length j6]) ?_;refine yD 13 (.int .i64 E) ?_;refine oD 14 fun K hK=>?_;have hRV:=yN (S:=S) b8_10 hF8 hg_10 hge (by have:=hcd.size;have:=hg8.out;omega);obtain⟨r0,e0,r1,e1,r2,e2,r3,e3,r4,e4,r5,e5,r6,e6⟩:=b8_10.seven;go_simp;obtain⟨w_a,HWS⟩:∃W,Hid ((((((((w_10.setCell ⟨g8,0,none⟩ (.int .i64 X1.self)).setCell ⟨g8,1,none⟩ (.slice i1 X1.st.clock.length j1)).setCell ⟨g8,2,none⟩ (.slice i2 X1.st.lives.length j2)).setCell ⟨g8,3,none⟩ (.slice i3 X1.st.tals.length j3)).setCell ⟨g8,4,none⟩ (.slice i4 X1.base.length j4)).setCell ⟨g8,5,none⟩ (.slice i5 X1.log.length j5)).setCell ⟨g8,6,none⟩ (.slice i6 X1.known.length j6))=W):=⟨_,rfl⟩;rw[HWS.out]at hRV ⊢;have hg_a:Zh w0 w_a:=hRV.2.2;have hH_a:=HK.out _ hg_a;refine kS hK hH_a ?_;clear hK K;refine oD 15 fun K hK=>?_;go_simp;have hH_e:=hH_a;refine kS hK hH_e ?_;clear hK K;refine eD ?_;have HB3:=Za hg_a;have BX:=Za hRV.1;have FX:=Za hRV.2.1;obtain⟨r0,r1,r2,r3,r4,r5,r6⟩:=BX.c7;have p0:=(P0.below HB3.out (nlr _)).get 0 rfl;have d1:=(D0.below HB3.out (nlr _)).get 1 rfl;have d2:=(D0.below HB3.out (nlr _)).get 2 rfl
   go_wp2_with fail
   refine(stepPut_ref (d:=X1) k w.heap.size E _ (H0.below HB3.out) hkl ⟨_,_,_,_,_,_,rfl,FX.out⟩ p0).mono ?_;rintro e wz ⟨rfl,hz,ho⟩;clear r0 r1 r2 r3 r4 r5 r6 p0 d1 d2
   go_wp2_with fail
   go_ret
   exact⟨rfl,by rw[←HXX.out];exact hz,(HO.trans (zM HB3.out (nlr _))).trans (ho.sub fun k hk=>.inl hk)⟩
  obtain rfl:E9=E:=by rw[←HE.out,HE9.out];simp[changeE,HIN.out]
  have HXX:Hid ((if E9=0 then Ow W k X9 else W)=X):=by
   unfold Hid;rw[←HX.out,HE9.out,HX9.out]
   by_cases e:E9=0 <;> simp[yI,e,HIN.out]
  obtain⟨r0,r1,r2,r3,r4,r5,r6⟩:=B1.c7;have p0:=(P0.below HB1.out (nlr _)).get 0 rfl;have d1:=(D0.below HB1.out (nlr _)).get 1 rfl;have d2:=(D0.below HB1.out (nlr _)).get 2 rfl
  go_wp2_with fail
  refine(stepPut_ref (d:=X9) k w.heap.size E9 _ (H0.below HB1.out) hkl ⟨_,_,_,_,_,_,rfl,F1.out⟩ p0).mono ?_;rintro e wz ⟨rfl,hz,ho⟩;clear r0 r1 r2 r3 r4 r5 r6 p0 d1 d2
  go_wp2_with fail
  go_ret
  exact⟨rfl,by rw[←HXX.out];exact hz,(HO.trans (zM HB1.out (nlr _))).trans (ho.sub fun k hk=>.inl hk)⟩
 by_cases k2:kd=2∨kd=4
 rotate_left
 ·obtain rfl:1=E:=by rw[←HE.out,if_neg (fun e=>k1 (.inl e)),if_neg (fun e=>k2 (.inl e)),if_neg k3,if_neg (fun e=>k2 (.inr e)),if_neg (fun e=>k1 (.inr e))]
  obtain rfl:W=X:=by rw[←HX.out,if_neg (fun e=>k1 (.inl e)),if_neg (fun e=>k2 (.inl e)),if_neg k3,if_neg (fun e=>k2 (.inr e)),if_neg (fun e=>k1 (.inr e))]
  have j1:(kd==1)=false:=by simpa using fun e=>k1 (.inl e)
  have j5:(kd==5)=false:=by simpa using fun e=>k1 (.inr e)
  have j2:(kd==2)=false:=by simpa using fun e=>k2 (.inl e)
  have j3:(kd==3)=false:=by simpa using k3
  have j4:(kd==4)=false:=by simpa using fun e=>k2 (.inr e)
  clear k1 k2 k3;have q:(¬(0:Int)≤N)∨((0:Int)≤N∧N<(W.nodes.length:Int))∨((0:Int)≤N∧¬N<(W.nodes.length:Int)):=by omega
  rcases q with q|⟨q,q'⟩|⟨q,q'⟩
  all_goals
   go_wp2_with fail
   go_ret
   exact⟨rfl,H0.out,HO.out⟩
 clear k1 k3
 by_cases hin:isNB W N=true∧isNB W T=true
 rotate_left
 ·have hin':¬(isNB W N=true∧isNB W T=true∧¬N=T):=fun h=>hin ⟨h.1,h.2.1⟩
  obtain rfl:6=E:=by rw[←HE.out];rcases k2 with rfl|rfl <;> simp[twoE,hin]
  obtain rfl:W=X:=by rw[←HX.out];rcases k2 with rfl|rfl <;> simp only[twoX,if_neg hin'] <;> simp
  have hno:¬((0≤N∧N<W.nodes.length)∧(0≤T∧T<W.nodes.length)):=fun h=>hin ⟨isNB_iff.2 h.1,isNB_iff.2 h.2⟩;have q:(¬(0:Int)≤N)∨((0:Int)≤N∧¬N<(W.nodes.length:Int))∨((0:Int)≤N∧N<(W.nodes.length:Int)∧T<0)∨((0:Int)≤N∧N<(W.nodes.length:Int)∧¬T<0∧(W.nodes.length:Int)≤T):=by omega
  clear hin hin' hno
  rcases q with q|⟨q,q'⟩|⟨q,q',q2⟩|⟨q,q',q2,q3⟩ <;> rcases k2 with rfl|rfl
  all_goals
   go_wp2_with fail
   go_ret
   exact⟨rfl,H0.out,HO.out⟩
 obtain⟨a,rfl,hal⟩:=isNB_nat hin.1;obtain⟨b,rfl,hbl⟩:=isNB_nat hin.2;have HIN:=Za hin;have ha0:(0:Int)≤(a:Int):=by omega
 have ha1:(a:Int)<(W.nodes.length:Int):=by omega
 have hb0:¬(b:Int)<0:=by omega
 have hb1:¬(W.nodes.length:Int)≤(b:Int):=by omega
 have hb2:(b:Int)<(W.nodes.length:Int):=by omega
 clear hin
 by_cases hab:(a:Int)=b
 ·obtain rfl:7=E:=by rw[←HE.out];rcases k2 with rfl|rfl <;> simp[twoE,HIN.out,hab]
  obtain rfl:W=X:=by rw[←HX.out];rcases k2 with rfl|rfl <;> simp[twoX,hab]
  have hab':((a:Int)==(b:Int))=true:=by simpa using hab
  clear hab
  rcases k2 with rfl|rfl
  all_goals
   go_wp2_with fail
   go_ret
   exact⟨rfl,H0.out,HO.out⟩
 have hab':((a:Int)==(b:Int))=false:=by simpa using hab
 have HAB:=Za hab;clear hab;obtain⟨rs,av,c,hbr,hrs,hp,hlc⟩:=H0.at hal hbl;obtain⟨ps,HPS⟩:∃ps,Hid (Oi W a b=ps):=⟨_,rfl⟩;rw[HPS.out]at hrs hp hlc;have BR:=Za hbr;have HRS:=Za hrs;have HP0:=Za hp;have HLC:=Za hlc;have HNP:Hid (gr a<w.heap.size):=HS0.out _ (H0.sr a hal);have vw:=H0.way a hal;have q1:=H0.box.get 1 rfl;clear hbr hrs hp hlc
 rcases k2 with rfl|rfl
 all_goals
  have HK:=Za fun w' (hg:Zh w0 w')=>And.intro (Yi hg p0) (And.intro (Yi hg q1) (And.intro (Yi hg d1) (And.intro (Yi hg d2) ((Yi hg vw)))))
  go_upto_region 20 with fail
  clear p0 q0 q1 d0 d1 d2 vw;refine bD (fun _=>false) (fun _=>True) (Zi _) HK.out fun wd hcd hHeld=>?_;refine yD 0 (.pointer (some ⟨g,0,none⟩)) ?_;refine yD 1 (.pointer (some ⟨g,0,none⟩)) ?_;refine yD 2 (.pointer (some ⟨g,1,none⟩)) ?_;refine yD 3 (.slice (some ⟨gw,0,none⟩) W.nodes.length cw) ?_;refine yD 4 (.pointer (some ⟨w.heap.size+1,1,none⟩)) ?_;refine yD 5 (.int .i64 (a:Int)) ?_;refine yD 6 (.pointer (some ⟨gw,a,none⟩)) ?_;refine yD 7 (.slice (some ⟨gr a,0,none⟩) W.nodes.length W.nodes.length) ?_;refine yD 8 (.pointer (some ⟨w.heap.size+1,2,none⟩)) ?_;refine yD 9 (.int .i64 (b:Int)) ?_;refine yD 10 (.pointer (some ⟨gr a,b,none⟩)) ?_;refine oD 11 fun K hK=>?_;go_simp;have hH_11:=HK.out _ hcd;refine kS hK hH_11 ?_;clear hK K;refine eD ?_;have HB1:=Za hcd;obtain⟨w1,rfl⟩:∃w1,w1=wd:=⟨wd,rfl⟩;clear hcd hHeld HK;have HP1:=Za (HP0.off (zM HB1.out (nlr _)));have HO1:=Za (HO.trans (zM HB1.out (nlr _)));have d0:=(D0.below HB1.out (nlr _)).get 0 rfl
 ·have HEE:Hid (wsendE W a b=E):=by unfold Hid;rw[←HE.out,if_neg (by decide),if_pos rfl];unfold twoE;rw[if_pos HIN.out,if_neg HAB.out]
  have HXX:Hid (wsendX W a b=X):=by unfold Hid;rw[←HX.out,if_neg (by decide),if_pos rfl];unfold twoX;rw[if_pos ⟨HIN.1,HIN.2,HAB.out⟩]
  unfold wsendX at HXX;rw[HEE.out,HPS.out]at HXX;unfold wsendE at HEE;rw[HPS.out]at HEE;have cr:=(BR.below HB1.out (nlr _)).get b HRS.out
  by_cases hm:20≤ps.length
  ·rw[if_pos hm]at HEE;obtain rfl:=HEE.out;rw[if_neg (by decide)]at HXX;obtain rfl:=HXX.out;have hm':(20:Int)≤(ps.length:Int):=by omega
   go_wp2_with fail
   go_ret
   exact⟨rfl,H0.below HB1.out,HO1.out⟩
  rw[if_neg hm]at HEE;have hm':¬(20:Int)≤(ps.length:Int):=by omega
  have HFEW:Hid (ps.length≤1000):=by unfold Hid;omega
  obtain⟨d,HD⟩:∃d,Hid (Xa W a=d):=⟨_,rfl⟩;have H1:=Za (H0.below HB1.out);have HS1:Hid (∀k,S k→k<w1.heap.size):=fun k hk=>Nat.lt_of_lt_of_le (HS.out k hk) HB1.size;obtain⟨y1,y2,y3,y4,y5,y6,hF,⟨n0,n1,n2,n3,n4,n5,n6⟩,-⟩:=H1.node hal;rw[HD.out]at hF n0 HEE HXX;have F1:=Za hF;obtain⟨X9,HX9⟩:∃X,Hid (sendX d b=X):=⟨_,rfl⟩;rw[HX9.out]at HXX;have p0:=(P0.below HB1.out (nlr _)).get 0 rfl;have d1:=(D0.below HB1.out (nlr _)).get 1 rfl;have d2:=(D0.below HB1.out (nlr _)).get 2 rfl;have q0:=H1.box.get 0 rfl;have HK:=Za fun w' (hg:Zh w1 w')=>And.intro (Yi hg p0) (And.intro (Yi hg q0) (And.intro (Yi hg d1) (And.intro (Yi hg d2) (And.intro (Yi hg n0) (And.intro (Yi hg n1) (And.intro (Yi hg n2) (And.intro (Yi hg n3) (And.intro (Yi hg n4) (And.intro (Yi hg n5) ((Yi hg n6)))))))))));clear hF
  go_upto_region 24 with fail
  clear p0 q0 d0 d1 d2 n0 n1 n2 n3 n4 n5 n6 cr
  go_cut [11,12] (fun s1 s2 wx=>∃g8 b1 e1 b2 e2 b3 e3 b4 e4 b5 e5,s1=.pointer (some ⟨g8,0,none⟩)∧s2=.int .i64 E∧Hid (Box wx g8 [.bool X9.whole,.slice b1 X9.st.clock.length e1,.slice b2 X9.st.lives.length e2,.slice b3 X9.st.tals.length e3,.slice b4 X9.ups.length e4,.slice b5 X9.clock.length e5] 35)∧Hid (PcF S wx (.slice b1 X9.st.clock.length e1) (.slice b2 X9.st.lives.length e2) (.slice b3 X9.st.tals.length e3) (.slice b4 X9.ups.length e4) (.slice b5 X9.clock.length e5) X9)∧Hid (Below w1.heap.size w1 wx)∧w1.heap.size≤g8)
  case first=>
   refine bD (fun _=>false) (fun _=>True) (Zi _) HK.out fun wd hcd hHeld=>?_;refine yD 0 (.pointer (some ⟨g,0,none⟩)) ?_;refine yD 1 (.pointer (some ⟨g,0,none⟩)) ?_;refine yD 2 (.pointer (some ⟨g,0,none⟩)) ?_;refine yD 3 (.slice (some ⟨gn,0,none⟩) W.nodes.length cn) ?_;refine yD 4 (.pointer (some ⟨w.heap.size+1,1,none⟩)) ?_;refine yD 5 (.int .i64 (a:Int)) ?_;refine yD 6 (.pointer (some ⟨gn,a*7,none⟩)) ?_;refine yD 7 (.agg #[.int .i64 d.self,y1,y2,y3,y4,y5,y6]) ?_;refine yD 8 (.pointer (some ⟨w.heap.size+1,2,none⟩)) ?_;refine yD 9 (.int .i64 (b:Int)) ?_;refine aD [10,14] (cD (fun K hK=>?_) (cD (fun K hK=>?_) nD))
   ·skip
    go_simp;refine(send_ref (S:=Us S w1.heap.size wd.heap.size) (b:Int) _ ⟨_,_,_,_,_,_,rfl,F1.more hcd⟩ (mine_lt HS1.out (nlr _) hcd.size)).mono ?_;rintro e w_10 ⟨rv,rfl,hv8,hb_10⟩;rw[HEE.out];rw[HX9.out]at hv8;obtain⟨b1,e1,b2,e2,b3,e3,b4,e4,b5,e5,rfl,hF8⟩:=hv8.form;go_simp;have hg_10:Zh w1 w_10:=Zd hcd hb_10;have hH_10:=HK.out _ hg_10;refine kS hK hH_10 ?_;clear hK K;refine yD 11 (.tuple #[.agg #[.bool X9.whole,.slice b1 X9.st.clock.length e1,.slice b2 X9.st.lives.length e2,.slice b3 X9.st.tals.length e3,.slice b4 X9.ups.length e4,.slice b5 X9.clock.length e5],.int .i64 E]) ?_;refine yD 12 (.agg #[.bool X9.whole,.slice b1 X9.st.clock.length e1,.slice b2 X9.st.lives.length e2,.slice b3 X9.st.tals.length e3,.slice b4 X9.ups.length e4,.slice b5 X9.clock.length e5]) ?_;refine yD 13 (.int .i64 E) ?_;refine oD 14 fun K hK=>?_;go_simp;obtain⟨w_a,HWw_a,b8_10_14',hb_a,hs_a⟩:=xW w_10 [.bool false,.slice none 0 0,.slice none 0 0,.slice none 0 0,.slice none 0 0,.slice none 0 0] 35;rw[HWw_a.out];have b8_a:=b8_10_14'.out;have hg_a:Zh w1 w_a:=Zd hg_10 hb_a.out;have hH_a:=HK.out _ hg_a;refine kS hK hH_a ?_;clear hK K;refine oD 15 fun K hK=>?_;have hRV:=late6 b8_a hF8 hb_a.out (nlr _);obtain⟨r0,f0,r1,f1,r2,f2,r3,f3,r4,f4,r5,f5⟩:=b8_a.six;go_simp;obtain⟨w_e,HWS⟩:∃W,Hid (((((((w_a.setCell ⟨w_10.heap.size,0,none⟩ (.bool X9.whole)).setCell ⟨w_10.heap.size,1,none⟩ (.slice b1 X9.st.clock.length e1)).setCell ⟨w_10.heap.size,2,none⟩ (.slice b2 X9.st.lives.length e2)).setCell ⟨w_10.heap.size,3,none⟩ (.slice b3 X9.st.tals.length e3)).setCell ⟨w_10.heap.size,4,none⟩ (.slice b4 X9.ups.length e4)).setCell ⟨w_10.heap.size,5,none⟩ (.slice b5 X9.clock.length e5))=W):=⟨_,rfl⟩;rw[HWS.out]at hRV ⊢;have hg_e:Zh w1 w_e:=Zd hg_10 hRV.2.2;have hH_e:=HK.out _ hg_e;refine kS hK hH_e ?_;clear hK K;refine oD 16 fun K hK=>?_;go_simp;have hH_i:=hH_e;refine kS hK hH_i ?_;clear hK K;refine eD ?_
    go_wp2_with fail
    go_meet
    exact⟨_,_,_,_,_,_,_,_,_,_,_,rfl,rfl,Za hRV.1,Za hRV.2.1,Za hg_e,hg_10.size⟩
   skip
   go_simp;obtain⟨w_14,HWw_14,b8_14',hb_14,hs_14⟩:=xW wd [.bool false,.slice none 0 0,.slice none 0 0,.slice none 0 0,.slice none 0 0,.slice none 0 0] 35;rw[HWw_14.out];have b8_14:=b8_14'.out;have hg_14:Zh w1 w_14:=Zd hcd hb_14.out;have hH_14:=HK.out _ hg_14;refine kS hK hH_14 ?_;clear hK K;refine oD 10 fun K hK=>?_;go_simp;refine(send_ref (S:=Us S w1.heap.size w_14.heap.size) (b:Int) _ ⟨_,_,_,_,_,_,rfl,F1.more hg_14⟩ (mine_lt HS1.out (nlr _) hg_14.size)).mono ?_;rintro e w_d ⟨rv,rfl,hv8,hb_d⟩;rw[HEE.out];rw[HX9.out]at hv8;obtain⟨b1,e1,b2,e2,b3,e3,b4,e4,b5,e5,rfl,hF8⟩:=hv8.form;go_simp;have hg_d:Zh w1 w_d:=Zd hg_14 hb_d;have b8_d:=b8_14.below hb_d (nlr _);have hH_d:=HK.out _ hg_d;refine kS hK hH_d ?_;clear hK K;refine yD 11 (.tuple #[.agg #[.bool X9.whole,.slice b1 X9.st.clock.length e1,.slice b2 X9.st.lives.length e2,.slice b3 X9.st.tals.length e3,.slice b4 X9.ups.length e4,.slice b5 X9.clock.length e5],.int .i64 E]) ?_;refine yD 12 (.agg #[.bool X9.whole,.slice b1 X9.st.clock.length e1,.slice b2 X9.st.lives.length e2,.slice b3 X9.st.tals.length e3,.slice b4 X9.ups.length e4,.slice b5 X9.clock.length e5]) ?_;refine yD 13 (.int .i64 E) ?_;refine oD 15 fun K hK=>?_;have hRV:=fin6 (S:=S) b8_d hF8 hg_d hcd.size (by have:=hs_14.out;omega);obtain⟨r0,f0,r1,f1,r2,f2,r3,f3,r4,f4,r5,f5⟩:=b8_d.six;go_simp;obtain⟨w_g,HWS⟩:∃W,Hid (((((((w_d.setCell ⟨wd.heap.size,0,none⟩ (.bool X9.whole)).setCell ⟨wd.heap.size,1,none⟩ (.slice b1 X9.st.clock.length e1)).setCell ⟨wd.heap.size,2,none⟩ (.slice b2 X9.st.lives.length e2)).setCell ⟨wd.heap.size,3,none⟩ (.slice b3 X9.st.tals.length e3)).setCell ⟨wd.heap.size,4,none⟩ (.slice b4 X9.ups.length e4)).setCell ⟨wd.heap.size,5,none⟩ (.slice b5 X9.clock.length e5))=W):=⟨_,rfl⟩;rw[HWS.out]at hRV ⊢;have hg_g:Zh w1 w_g:=hRV.2.2;have hH_g:=HK.out _ hg_g;refine kS hK hH_g ?_;clear hK K;refine oD 16 fun K hK=>?_;go_simp;have hH_k:=hH_g;refine kS hK hH_k ?_;clear hK K;refine eD ?_
   go_wp2_with fail
   go_meet
   exact⟨_,_,_,_,_,_,_,_,_,_,_,rfl,rfl,Za hRV.1,Za hRV.2.1,Za hg_g,hcd.size⟩
  obtain⟨g8,b1,e1,b2,e2,b3,e3,b4,e4,b5,e5,rfl,rfl,B2,F2,HB2,hge⟩:=hcut;obtain⟨w2,rfl⟩:∃w2,w2=wc:=⟨wc,rfl⟩;clear HK
  by_cases hE:E=0
  rotate_left
  ·have hE':(E==0)=false:=by simp[hE]
   rw[if_neg hE]at HXX;obtain rfl:=HXX.out;clear hE
   go_wp2_with fail
   go_ret
   exact⟨rfl,H1.below HB2.out,HO1.trans (zM HB2.out (nlr _))⟩
  subst hE;rw[if_pos rfl]at HXX;obtain⟨nl,HNL⟩:∃nl,Hid ((ps++[X9]).length=nl):=⟨_,rfl⟩;obtain⟨qs,hqs,hsl,hrq⟩:=HP1.off (zM HB2.out (nlr _));have BR:=Za ((BR.below HB1.out (nlr _)).below HB2.out (nlr _));have D2:=Za (H1.below HB2.out);have HS2:Hid (∀k,S k→k<w2.heap.size):=fun k hk=>Nat.lt_of_lt_of_le (HS1.out k hk) HB2.size;have HSL:=Za fun W (hg:Zh w2 W)=>hsl W (zM hg (nlr _));have HONE:=Za fun q hq=>(hrq q hq).one;have HQS:=Za hqs;have HRQ:=Za hrq;have HK:=Za fun w' (hg:Zh w2 w')=>And.intro ((BR.below hg (nlr _)).get b HRS.out) (B2.below hg (nlr _)).c6;have HFEW:Hid (qs.length≤1000):=by unfold Hid;have:=HFEW.out;rw[←hqs,List.length_map]at this;exact this
  clear hqs hsl hrq
  go_upto_region 26 with fail
  refine bD (fun i=>i==10) (fun _=>True) (Zi _) HK.out fun W9 hG hS=>?_;refine yD 0 (.pointer (some ⟨gr a,b,none⟩)) ?_;refine yD 2 (.pointer (some ⟨gr a,b,none⟩)) ?_;refine yD 3 (.pointer (some ⟨gr a,b,none⟩)) ?_;refine yD 4 (.slice av ps.length c) ?_;refine yD 6 (.agg #[.bool X9.whole,.slice b1 X9.st.clock.length e1,.slice b2 X9.st.lives.length e2,.slice b3 X9.st.tals.length e3,.slice b4 X9.ups.length e4,.slice b5 X9.clock.length e5]) ?_
  repeat'
   first
   |refine eD ?_ (by decide+kernel)
   |refine yT 9 (.pointer (some ⟨gr a,b,none⟩)) ?_ (hs:=by decide+kernel)
   |refine aR (cR 1 ?_ (cR 5 ?_ (cR 7 ?_ (cR 8 ?_ (cR 10 ?_ nR)))))
   |exact fun _ h=>absurd h (by decide+kernel)
   | (refine fun(_:Tg 1) _ K hK=>?_
      go_simp;have o1:=World.ownsRow_lit (base:=w2.heap.size) (e:=35) (size:=6) W9 #[] 0 hG.size (Nat.zero_le _) rfl;have zz:=hG.size;obtain⟨v1,hv1⟩:∃v1,Hid (Value.slice (some ⟨W9.heap.size,0,none⟩) 0 0=v1):=⟨_,rfl⟩;obtain⟨W9,HW9,-,hb,hs⟩:=xW W9 [] 35;rw[HW9.out,hv1.out]at o1 ⊢;replace o1:OwQ W9 w2.heap.size _ []:=o1;have zn:=Nat.lt_of_lt_of_le (Nat.lt_succ_self _) (Nat.le_of_eq hs.out.symm)
      try have b6:=b6.below hb.out (nlr _)
      have hG:=Zd hG hb.out;have hS:=HK.out _ hG
      refine kS hK hS ?_)
   | (refine fun(_:Tg 5) _ K hK=>?_
      obtain⟨v4,W9,hrun,o4,hgr,hbq⟩:=appQ_all o1 (HSL.out _ hG) HONE.out HFEW.out hG.size;refine step_run hrun ?_;clear hrun
      try have b6:=Box.grownN b6 hgr (by rw[←hv1.out];intro e;simp[Value.ownBlock]at e;omega)
      have zc:=hbq.size;have hG:=hG.trans hbq;have hS:=HK.out _ hG
      refine kS hK hS ?_)
   | (refine fun(_:Tg 7) _ K hK=>?_
      go_simp;have c6:=hG.size;obtain⟨W9,HW9,b6,hb,hs⟩:=xW W9 [.bool X9.whole,.slice b1 X9.st.clock.length e1,.slice b2 X9.st.lives.length e2,.slice b3 X9.st.tals.length e3,.slice b4 X9.ups.length e4,.slice b5 X9.clock.length e5] 35;rw[HW9.out];have zn:=Nat.lt_of_lt_of_le (Nat.lt_succ_self _) (Nat.le_of_eq hs.out.symm);have b6:=b6.out
      try have o1:=Zp o1 hb.out (nlr _)
      try have o4:=Zp o4 hb.out (nlr _)
      try replace o1:OwQ W9 w2.heap.size _ []:=o1
      try replace o4:OwQ W9 w2.heap.size _ qs:=o4
      have hG:=Zd hG hb.out;have hS:=HK.out _ hG
      refine kS hK hS ?_)
   | (refine fun(_:Tg 8) _ K hK=>?_
      obtain⟨v7,W9,hrun,o7,hbq⟩:=appQ_one (q:=(X9,.slice b1 X9.st.clock.length e1,.slice b2 X9.st.lives.length e2,.slice b3 X9.st.tals.length e3,.slice b4 X9.ups.length e4,.slice b5 X9.clock.length e5)) o4 b6 HFEW.out hG.size;refine step_run hrun ?_;clear hrun;have hG:=hG.trans hbq;have L:=PwR.snoc HQS.out HRQ.out F2.out (zM hG (nlr _)) o7 HS2.out;obtain⟨aV,cV,e7,-⟩:=L.form;obtain rfl:v7=.slice aV nl cV:=by rw[←HNL.out];exact e7
      clear e7;have hS:=HK.out _ hG
      refine kS hK hS ?_)
   | (refine fun(_:Tg 10) _ K hK=>?_
      have cr:=(BR.below hG (nlr _)).get b HRS.out;have fr:=(BR.below hG (nlr _)).free b;have hZ:=(D2.below hG).putW hal hbl L;go_simp
      refine kD hK trivial ?_)
  all_goals
   go_wp2_with fail
   go_ret
   exact⟨rfl,by rw[←HXX.out];exact hZ.1,HO1.trans ((zM HB2.out (nlr _)).trans ((zM hG (nlr _)).trans (hZ.2.sub fun k hk=>.inr ⟨a,hal,hk⟩)))⟩
 have HE2:Hid (nextE W a b=E):=by unfold Hid;rw[←HE.out,if_neg (by decide),if_neg (by decide),if_neg (by decide),if_pos rfl];unfold twoE;rw[if_pos HIN.out,if_neg HAB.out]
 have HX2:Hid (zN W a b=X):=by unfold Hid;rw[←HX.out,if_neg (by decide),if_neg (by decide),if_neg (by decide),if_pos rfl];unfold twoX;rw[if_pos ⟨HIN.1,HIN.2,HAB.out⟩]
 have cr:=(BR.below HB1.out (nlr _)).get b HRS.out;have fr:=(BR.below HB1.out (nlr _)).free b
 rcases ps with _|⟨p,r⟩
 ·obtain rfl:6=E:=by rw[←HE2.out];unfold nextE;simp[HPS.out]
  obtain rfl:W=X:=by rw[←HX2.out];unfold zN;simp[HPS.out]
  simp only[List.length_nil]at cr
  go_wp2_with fail
  go_ret
  exact⟨rfl,H0.below HB1.out,HO1.out⟩
 have HNX:Hid (zN W a b=Qy W a b r):=by unfold Hid zN;rw[HPS.out];rfl
 obtain⟨pb,po,x1,x2,x3,x4,x5,rfl,hPC,⟨s0,s1,s2,s3,s4,s5⟩,hPR⟩:=HP1.head;obtain⟨b1,e1,b2,e2,b3,e3,b4,e4,b5,e5,e,-⟩:=hPC.pcl.form;simp only[Value.agg.injEq,Array.mk.injEq,List.cons.injEq,and_true,true_and]at e;obtain⟨rfl,rfl,rfl,rfl,rfl⟩:=e;obtain⟨c,rfl⟩:∃m,c=m+1:=⟨c - 1,by have:=HLC.1;simp at this;omega⟩;have HRC:Hid (r.length≤c):=by unfold Hid;have:=HLC.1;simp at this;omega
 rw[Nat.add_sub_cancel]at hPR;simp only[List.length_cons]at cr;obtain⟨w2,HW2,Q2,HB2,hs2⟩:=xW w1 [.bool p.whole,.slice b1 p.st.clock.length e1,.slice b2 p.st.lives.length e2,.slice b3 p.st.tals.length e3,.slice b4 p.ups.length e4,.slice b5 p.clock.length e5] 35;have HPR:=Za (hPR.off (zM HB2.out (nlr _)));have HPC:=Za (hPC.off (zM HB2.out (nlr _)));have D2:=Za ((H0.below HB1.out).below HB2.out);have HB3:=Za (Zb HB1.out HB2.out);have HLW:=Za (BR.below HB1.out (nlr _)).lt;clear hPC hPR
 go_upto_region 31 with fail
 rw[HW2.out];clear s0 s1 s2 s3 s4 s5 cr fr;have cr:=(BR.below HB3.out (nlr _)).get b HRS.out;have fr:=(BR.below HB3.out (nlr _)).free b;simp only[List.length_cons]at cr
 go_cut [] (fun wx=>Hid (DwX S wx (Qy W a b r) g gn gw cn cw gr)∧Hid (Off (fun k=>k=gr a) w2 wx))
 case first=>
  by_cases hc:c=0
  ·subst hc;obtain rfl:r=[]:=List.eq_nil_of_length_eq_zero (by have:=HRC.out;omega);simp only[List.length_nil,Nat.zero_add]at cr;have hZ:=D2.putW hal hbl (PwR.nil (S:=S) (w:=w2) (some ⟨pb,po,none⟩))
   go_wp2_with fail
   go_meet
   exact⟨Za hZ.1,Za hZ.2⟩
  have hc1:¬c+1=1:=by omega
  have hZ:=D2.putW hal hbl HPR.out
  go_wp2_with fail
  go_meet
  exact⟨Za hZ.1,Za hZ.2⟩
 obtain⟨D3,HOG⟩:=hcut;obtain⟨w3,rfl⟩:∃w3,w3=wc:=⟨wc,rfl⟩;have HO3:=Za (HOG.sub (S':=S) fun k hk=>by rw[hk];exact H0.sr a hal);have HO4:=Za (HO1.trans ((zM HB2.out (nlr _)).trans (HOG.sub fun k hk=>.inr ⟨a,hal,hk⟩)));clear cr fr;have P3:=Za ((P0.below HB3.out (nlr _)).off HOG.out (by have:=HNP.out;omega));have K3:=Za ((D0.below HB3.out (nlr _)).off HOG.out (by have:=HNP.out;omega));have d0:=K3.get 0 rfl;obtain rfl:0=E:=by rw[←HE2.out];unfold nextE;rw[HPS.out];rfl
 obtain rfl:Qy W a b r=X:=by rw[←HX2.out,HNX.out]
 go_wp2_with fail
 go_ret
 exact⟨rfl,D3.out,HO4.out⟩
end Go.Proofs.YtfhecilhcofboaaGreat
