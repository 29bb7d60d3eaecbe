/- The document's own WrongNode, and its SameParcel of two that read as the same one. -/
import Derived.Test.YtfhecilhcofboaaGreatNrA
import Derived.Test.YtfhecilhcofboaaGreatRfB
import Derived.Test.YtfhecilhcofboaaGreatSameLog
import Derived.Test.YtfhecilhcofboaaGreatNdZ
import Derived.Test.YtfhecilhcofboaaGreatNdX
namespace Go.Proofs.YtfhecilhcofboaaGreat
open Go.RowKit

theorem sees_same{xs ys:List Int}(hl:ys.length=xs.length)(h:Ju xs ys=true):ys=xs↔Ju ys xs=true:=by
 rw[Qa]at h ⊢;refine⟨fun e i=>by rw[e];omega,fun k=>List.ext_getElem hl fun i h1 h2=>?_⟩;have p:=h i;have q:=k i;rw[Ui h1,Ui h2]at p q;omega

set_option maxRecDepth 100000 in
set_option maxHeartbeats 4000000 in
theorem Oh(v:Value)(d:NdS)(w:World)(h:Vp w v d):
  Calls Tryz.prog 9 #[v] w fun e w'=>e=.returned (.int .i64 (Vi d))∧Below w.heap.size w w':=by
 obtain⟨a1,c1,a2,c2,a3,c3,a4,c4,a5,c5,a6,c6,rfl,hs,hc,hb,hl,hk⟩:=h.form;obtain⟨sf,hsf⟩:∃sf,d.self=sf:=⟨_,rfl⟩;rw[hsf];obtain⟨w0,HW,G0,HB0,-⟩:=xW w [.int .i64 sf,.slice a1 d.st.clock.length c1,.slice a2 d.st.lives.length c2,.slice a3 d.st.tals.length c3,.slice a4 d.base.length c4,.slice a5 d.log.length c5,.slice a6 d.known.length c6] 31;obtain⟨N,HN⟩:∃N,Hid (Vi d=N):=⟨_,rfl⟩;rw[HN.out];unfold Vi at HN;rw[hsf]at HN;have HSF:=Za hsf;clear hsf;have KL:=hk.len_le;have HS:=Za hs;have HC:=Za hc;have HB:=Za hb;have HL:=Za hl;have HK:=Za hk;clear h hs hc hb hl hk;obtain⟨g0,g1,g2,g3,g4,g5,g6⟩:=G0.c7
 go_enter Tryz.func9,Tryz.ntmps9
 go_upto_region 1 with fail
 rw[HW.out]
 go_wp2_with fail
 refine(Jx _ d.st _ _ (HS.below HB0.out (nlr _))).mono ?_;rintro e w1 ⟨rfl,hb1⟩;obtain⟨E1,HE1⟩:∃E1,Hid (stE d.st d.st.clock.length=E1):=⟨_,rfl⟩;obtain⟨A1,HA1⟩:∃A1,Hid (stA d.st d.st.clock.length=A1):=⟨_,rfl⟩;rw[HE1.out,HA1.out];rw[HE1.out]at HN;obtain⟨w2,HW2,F2,hb2,-⟩:=xW w1 [.int .i64 E1,.int .i64 A1] 65;have G2:=Za ((G0.below hb1 (nlr _)).below hb2.out (nlr _));have HB2:=Za (Zb (Zb HB0.out hb1) hb2.out);have f0:=F2.get 0 rfl;clear g0 g1 g2 g3 g4 g5 g6 G0 HB0 hb1 hb2;obtain⟨g0,g1,g2,g3,g4,g5,g6⟩:=G2.c7
 go_upto_region 3 with fail
 rw[HW2.out]
 by_cases hE:E1=0
 rotate_left
 ·rw[if_neg hE]at HN;have hE':(E1 != 0)=true:=by simp[hE]
  clear hE
  go_wp2_with fail
  go_ret
  exact⟨by rw[←HN.out];rfl,HB2.out⟩
 rw[if_pos hE]at HN;have hE':(E1 != 0)=false:=by simp[hE]
 clear hE
 by_cases q0:sf<0
 ·rw[if_neg (by omega)]at HN
  go_wp2_with fail
  go_ret
  exact⟨by rw[←HN.out];rfl,HB2.out⟩
 by_cases q1:(d.st.clock.length:Int)≤sf
 ·rw[if_neg (by omega)]at HN
  go_wp2_with fail
  go_ret
  exact⟨by rw[←HN.out];rfl,HB2.out⟩
 rw[if_pos (by omega)]at HN
 go_wp2_with fail
 refine(clock_ref _ _ d.base d.log _ _ (HB.below HB2.out (nlr _)) (HL.below HB2.out (nlr _))).mono ?_;rintro e w3 ⟨rv,rfl,ho3,hb3⟩;obtain⟨E2,HE2⟩:∃E2,Hid (Xb d.base d.log d.st.clock.length=E2):=⟨_,rfl⟩;obtain⟨A2,HA2⟩:∃A2,Hid (Vg d.base d.log d.st.clock.length=A2):=⟨_,rfl⟩;obtain⟨X,HX⟩:∃X,Hid (Vf d.base d.log d.st.clock.length=X):=⟨_,rfl⟩;rw[HE2.out,HA2.out];rw[HE2.out,HX.out]at HN;rw[HX.out]at ho3;obtain⟨aX,cX,rfl,-⟩:=id ho3.row;obtain⟨w4,HW4,F4,hb4,-⟩:=xW w3 [.int .i64 E2,.int .i64 A2] 65;have G4:=Za ((G2.below hb3 (nlr _)).below hb4.out (nlr _));have HB4:=Za (Zb (Zb HB2.out hb3) hb4.out);have X4:=Za (ho3.row.below hb4.out (nlr _));clear f0 g0 g1 g2 g3 g4 g5 g6 G2 HB2 F2 hb3 hb4 ho3;obtain⟨g0,g1,g2,g3,g4,g5,g6⟩:=G4.c7;have f0:=F4.get 0 rfl
 go_upto_region 8 with fail
 rw[HW4.out]
 by_cases hE2:E2=0
 rotate_left
 ·rw[if_neg hE2]at HN;have hE2':(E2 != 0)=true:=by simp[hE2]
  clear hE2
  go_wp2_with fail
  go_ret
  exact⟨by rw[←HN.out];rfl,HB4.out⟩
 rw[if_pos hE2]at HN;have hE2':(E2 != 0)=false:=by simp[hE2]
 clear hE2
 go_wp2_with fail
 refine(same_ref _ _ X d.st.clock _ X4.out (HC.below HB4.out (nlr _))).mono ?_;rintro e w5 ⟨rfl,hb5⟩;have G5:=Za (G4.below hb5 (nlr _));have HB5:=Za (Zb HB4.out hb5);clear f0 g0 g1 g2 g3 g4 g5 g6 G4 HB4 F4 hb5 X4;obtain⟨g0,g1,g2,g3,g4,g5,g6⟩:=G5.c7
 by_cases hX:X=d.st.clock
 rotate_left
 ·rw[if_neg fun h=>hX h.1]at HN;rw[decide_eq_false hX];clear hX
  go_wp2_with fail
  go_ret
  exact⟨by rw[←HN.out];rfl,HB5.out⟩
 rw[decide_eq_true hX]
 by_cases hK:d.known.length=d.st.clock.length
 rotate_left
 ·rw[if_neg fun h=>hK h.2]at HN;have hK':((d.known.length:Int) != (d.st.clock.length:Int))=true:=by simp;omega
  clear hK hX
  go_wp2_with fail
  go_ret
  exact⟨by rw[←HN.out];rfl,HB5.out⟩
 rw[if_pos ⟨hX,hK⟩]at HN;have hK':((d.known.length:Int) != (d.st.clock.length:Int))=false:=by simp;omega
 clear hK hX
 go_wp2_with fail
 clear g0 g1 g2 g3 g4 g5 g6
 go_loopw [62] (fun i wr=>∃k:Nat,k≤d.known.length∧i=.int .i64 k∧Hid (zR (Qm d) k (d.known.length - k)=N)∧Hid (Below w5.heap.size w5 wr)) (fun i _=>d.known.length - (intOf i).toNat)
 case atStart=>exact⟨0,Nat.zero_le _,rfl,HN,Za (Below.refl _ _)⟩
 obtain⟨k,hk,rfl,HF,HB20⟩:=hrel;obtain⟨w6,rfl⟩:∃w6,w6=wr:=⟨wr,rfl⟩;have HB6:=Za (Zb HB5.out HB20.out);have G6:=Za (G5.below HB20.out (nlr _));obtain⟨g0,g1⟩:=G6.c2
 by_cases hlt:k<d.known.length
 rotate_left
 ·have hlt':¬(k:Int)<(d.known.length:Int):=by omega
  rw[show d.known.length - k=0 by omega]at HF
  go_wp2_with fail
  go_ret
  exact⟨by rw[←HF.out];rfl,HB6.out⟩
 obtain⟨m,hm⟩:∃m,d.known.length - k=m+1:=⟨d.known.length - k - 1,by omega⟩;rw[hm]at HF;have HM:=Za (And.intro hm hlt);clear hm;obtain⟨x,hx⟩:∃x,d.known[k]? =some x:=⟨_,List.getElem?_eq_getElem hlt⟩;obtain⟨b,off,a7,c7,hadr,hcell,hrow⟩:=HK.at hx;subst hadr;have hc1:=Yi HB6.out hcell;have X6:=Za (hrow.below HB6.out (nlr _));have hlt':(k:Int)<(d.known.length:Int):=by omega
 have hkx:d.known.getD k []=x:=by rw[List.getD_eq_getElem?_getD,hx];rfl
 obtain⟨K,HKE⟩:∃K,Hid (Qm d k=K):=⟨_,rfl⟩;unfold zR at HF;rw[HKE.out]at HF;unfold Qm at HKE;rw[hkx,HSF.out]at HKE;clear hcell hrow hx hkx
 go_wp2_with fail
 refine(Xy _ x _ _ X6.out).mono ?_;rintro e w' ⟨rfl,rfl⟩;obtain⟨E3,HE3⟩:∃E3,Hid (Zn x d.st.clock.length=E3):=⟨_,rfl⟩;rw[HE3.out];rw[HE3.out]at HKE
 by_cases hE3:E3=0
 rotate_left
 ·rw[if_neg hE3]at HKE;have hE3':(E3 != 0)=true:=by simp[hE3]
  rw[if_neg (by rw[←HKE.out];exact hE3)]at HF;clear hE3
  go_wp2_with fail
  go_ret
  exact⟨by rw[←HF.out,←HKE.out];rfl,HB6.out⟩
 have hxl:Hid (x.length=d.st.clock.length):=by unfold Hid;have:=(Yq (HE3.trans hE3));omega
 rw[if_pos hE3]at HKE;have hE3':(E3 != 0)=false:=by simp[hE3]
 clear hE3
 go_wp2_with fail
 refine(sees_ref _ _ d.st.clock x _ (HC.below HB6.out (nlr _)) X6.out).mono ?_;rintro e w' ⟨rfl,rfl⟩;obtain⟨s1,HS1⟩:∃s,Hid (Ju d.st.clock x=s):=⟨_,rfl⟩;rw[HS1.out];rw[HS1.out]at HKE
 cases s1
 ·rw[if_neg (by decide)]at HKE;rw[if_neg (by rw[←HKE.out];decide)]at HF
  go_wp2_with fail
  go_ret
  exact⟨by rw[←HF.out,←HKE.out];rfl,HB6.out⟩
 rw[if_pos rfl]at HKE
 by_cases hks:(k:Int)=sf
 rotate_left
 ·rw[if_neg fun h=>hks h.1]at HKE;rw[if_pos HKE.symm]at HF;have hks':((k:Int)==sf)=false:=by simp[hks]
  clear hks
  go_wp2_with fail
  go_roundw
  case rel=>exact⟨k+1,by have:=HM.out;omega,by go_num,by rw[show d.known.length - (k+1)=m by have:=HM.out;omega];exact HF,HB20⟩
  case measure=>have:=HM.out;simp[intOf];omega
 subst hks
 go_wp2_with fail
 refine(sees_ref _ _ x d.st.clock _ X6.out (HC.below HB6.out (nlr _))).mono ?_;rintro e w' ⟨rfl,rfl⟩;obtain⟨s2,HS2⟩:∃s,Hid (Ju x d.st.clock=s):=⟨_,rfl⟩;rw[HS2.out]
 cases s2
 ·rw[if_pos ⟨by trivial,fun h=>absurd ((sees_same hxl.out HS1.out).1 h) (by rw[HS2.out];decide)⟩]at HKE;rw[if_neg (by rw[←HKE.out];decide)]at HF
  go_wp2_with fail
  go_ret
  exact⟨by rw[←HF.out,←HKE.out];rfl,HB6.out⟩
 rw[if_neg fun h=>h.2 ((sees_same hxl.out HS1.out).2 HS2.out)]at HKE;rw[if_pos HKE.symm]at HF
 go_wp2_with fail
 go_roundw
 case rel=>exact⟨k+1,by have:=HM.out;omega,by go_num,by rw[show d.known.length - (k+1)=m by have:=HM.out;omega];exact HF,HB20⟩
 case measure=>have:=HM.out;simp[intOf];omega

set_option maxRecDepth 100000 in
set_option maxHeartbeats 4000000 in
theorem sameParcel_yes(v u:Value)(p:Pcl)(w:World)(h:IsPcl w v p)(hu:IsPcl w u p):
  Calls Tryz.prog 14 #[v,u] w fun e w'=>e=.returned (.bool true)∧Below w.heap.size w w':=by
 obtain⟨a1,c1,a2,c2,a3,c3,a4,c4,a5,c5,rfl,hs,-,hl,hc⟩:=h.form;obtain⟨b1,e1,b2,e2,b3,e3,b4,e4,b5,e5,rfl,ks,-,kl,kc⟩:=hu.form;obtain⟨w0,HW,G0,V0,HB0,-⟩:=lay2 w [.bool p.whole,.slice a1 p.st.clock.length c1,.slice a2 p.st.lives.length c2,.slice a3 p.st.tals.length c3,.slice a4 p.ups.length c4,.slice a5 p.clock.length c5] 35 [.bool p.whole,.slice b1 p.st.clock.length e1,.slice b2 p.st.lives.length e2,.slice b3 p.st.tals.length e3,.slice b4 p.ups.length e4,.slice b5 p.clock.length e5] 35;have H:=Za (And.intro hs (And.intro ks (And.intro hl (And.intro kl (And.intro hc kc)))));have hbb:(p.whole==p.whole)=true:=by simp
 clear h hu hs ks hl kl hc kc;obtain⟨g0,g1,g2,g3,g4,g5⟩:=G0.c6;obtain⟨v0,v1,v2,v3,v4,v5⟩:=V0.c6
 go_enter Tryz.func14,Tryz.ntmps14
 go_upto_region 1 with fail
 rw[HW.out]
 go_wp2_with fail
 refine(same_st _ _ p.st _ (H.1.below HB0.out (nlr _)) (H.2.1.below HB0.out (nlr _))).mono ?_;rintro e w1 ⟨rfl,hb1⟩;have G1:=Za (G0.below hb1 (nlr _));have V1:=Za (V0.below hb1 (nlr _));have HB1:=Za (Zb HB0.out hb1);clear g0 g1 g2 g3 g4 g5 v0 v1 v2 v3 v4 v5 G0 V0 hb1;obtain⟨g0,g1,g2,g3,g4,g5⟩:=G1.c6;obtain⟨v0,v1,v2,v3,v4,v5⟩:=V1.c6
 go_wp2_with fail
 refine(sameLog_yes _ _ p.ups _ (H.2.2.1.below HB1.out (nlr _)) (H.2.2.2.1.below HB1.out (nlr _))).mono ?_;rintro e w2 ⟨rfl,hb2⟩;have G2:=Za (G1.below hb2 (nlr _));have V2:=Za (V1.below hb2 (nlr _));have HB2:=Za (Zb HB1.out hb2);clear g0 g1 g2 g3 g4 g5 v0 v1 v2 v3 v4 v5 G1 V1 hb2;obtain⟨g0,g1,g2,g3,g4,g5⟩:=G2.c6;obtain⟨v0,v1,v2,v3,v4,v5⟩:=V2.c6
 go_wp2_with fail
 refine(same_ref _ _ p.clock p.clock _ (H.2.2.2.2.1.below HB2.out (nlr _)) (H.2.2.2.2.2.below HB2.out (nlr _))).mono ?_;rintro e w3 ⟨rfl,hb3⟩;rw[decide_eq_true rfl];have HB3:=Za (Zb HB2.out hb3)
 go_wp2_with fail
 go_ret
 exact⟨rfl,HB3.out⟩
end Go.Proofs.YtfhecilhcofboaaGreat
/- The document's own SameNode, of two that read as the same node; what stands Jd of each law of chapter 6. -/
namespace Go.Proofs.YtfhecilhcofboaaGreat
open Go.RowKit

set_option maxRecDepth 100000 in
set_option maxHeartbeats 4000000 in
theorem sameNode_yes(v u:Value)(d:NdS)(w:World)(h:Vp w v d)(hu:Vp w u d):
  Calls Tryz.prog 7 #[v,u] w fun e w'=>e=.returned (.bool true)∧Below w.heap.size w w':=by
 obtain⟨a1,c1,a2,c2,a3,c3,a4,c4,a5,c5,a6,c6,rfl,hs1,hc1,hb1,hl1,hk1⟩:=h.form;obtain⟨b1,e1,b2,e2,b3,e3,b4,e4,b5,e5,b6,e6,rfl,hs2,hc2,hb2,hl2,hk2⟩:=hu.form;have hbp:=Below.plus (bpl w (.cells #[.int .i64 d.self,.slice a1 d.st.clock.length c1,.slice a2 d.st.lives.length c2,.slice a3 d.st.tals.length c3,.slice a4 d.base.length c4,.slice a5 d.log.length c5,.slice a6 d.known.length c6] 31)) (.cells #[.int .i64 d.self,.slice b1 d.st.clock.length e1,.slice b2 d.st.lives.length e2,.slice b3 d.st.tals.length e3,.slice b4 d.base.length e4,.slice b5 d.log.length e5,.slice b6 d.known.length e6] 31);have G0:=Za ((Box.new w [.int .i64 d.self,.slice a1 d.st.clock.length c1,.slice a2 d.st.lives.length c2,.slice a3 d.st.tals.length c3,.slice a4 d.base.length c4,.slice a5 d.log.length c5,.slice a6 d.known.length c6] 31).plus (.cells #[.int .i64 d.self,.slice b1 d.st.clock.length e1,.slice b2 d.st.lives.length e2,.slice b3 d.st.tals.length e3,.slice b4 d.base.length e4,.slice b5 d.log.length e5,.slice b6 d.known.length e6] 31));have V0:=Za (Box.new (w.alloc (.cells #[.int .i64 d.self,.slice a1 d.st.clock.length c1,.slice a2 d.st.lives.length c2,.slice a3 d.st.tals.length c3,.slice a4 d.base.length c4,.slice a5 d.log.length c5,.slice a6 d.known.length c6] 31)) [.int .i64 d.self,.slice b1 d.st.clock.length e1,.slice b2 d.st.lives.length e2,.slice b3 d.st.tals.length e3,.slice b4 d.base.length e4,.slice b5 d.log.length e5,.slice b6 d.known.length e6] 31);simp only[World.size_alloc]at V0;have HB0:=Za hbp;have SA0:=Za (hs1.below hbp (nlr _));have SB0:=Za (hs2.below hbp (nlr _));have BA0:=Za (hb1.below hbp (nlr _));have BB0:=Za (hb2.below hbp (nlr _));have LA0:=Za (hl1.below hbp (nlr _));have LB0:=Za (hl2.below hbp (nlr _));have KA0:=Za (hk1.below hbp (nlr _));have KB0:=Za (hk2.below hbp (nlr _));have hkl:=hk1.len_le;have hne0:(d.self != d.self)=false:=by simp
 have hne5:((d.known.length:Int) != (d.known.length:Int))=false:=by simp
 clear h hu hs1 hs2 hc1 hc2 hb1 hb2 hl1 hl2 hk1 hk2 hbp;obtain⟨W0,HW0⟩:∃W0,Hid ((w.alloc (.cells #[.int .i64 d.self,.slice a1 d.st.clock.length c1,.slice a2 d.st.lives.length c2,.slice a3 d.st.tals.length c3,.slice a4 d.base.length c4,.slice a5 d.log.length c5,.slice a6 d.known.length c6] 31)).alloc (.cells #[.int .i64 d.self,.slice b1 d.st.clock.length e1,.slice b2 d.st.lives.length e2,.slice b3 d.st.tals.length e3,.slice b4 d.base.length e4,.slice b5 d.log.length e5,.slice b6 d.known.length e6] 31)=W0):=⟨_,rfl⟩;rw[HW0.out]at G0 V0 HB0 SA0 SB0 BA0 BB0 LA0 LB0 KA0 KB0;obtain⟨w0,rfl⟩:∃w0,w0=W0:=⟨W0,rfl⟩
 go_enter Tryz.func7,Tryz.ntmps7
 go_upto_region 1 with fail
 rw[HW0.out];obtain⟨cG0,cG1,cG2,cG3,cG4,cG5,cG6⟩:=G0.c7;obtain⟨cV0,cV1,cV2,cV3,cV4,cV5,cV6⟩:=V0.c7
 go_wp2_with fail
 refine(same_st _ _ d.st _ SA0.out SB0.out).mono ?_;rintro e w1 ⟨rfl,hb⟩;have HB1:=Za (Zb HB0.out hb);have G1:=Za (G0.below hb (nlr _));have V1:=Za (V0.below hb (nlr _));have SA1:=Za (SA0.below hb (nlr _));have SB1:=Za (SB0.below hb (nlr _));have BA1:=Za (BA0.below hb (nlr _));have BB1:=Za (BB0.below hb (nlr _));have LA1:=Za (LA0.below hb (nlr _));have LB1:=Za (LB0.below hb (nlr _));have KA1:=Za (KA0.below hb (nlr _));have KB1:=Za (KB0.below hb (nlr _));clear HB0 hb G0 V0 SA0 SB0 BA0 BB0 LA0 LB0 KA0 KB0;obtain⟨cG0,cG1,cG2,cG3,cG4,cG5,cG6⟩:=G1.c7;obtain⟨cV0,cV1,cV2,cV3,cV4,cV5,cV6⟩:=V1.c7
 go_wp2_with fail
 refine(same_yesW _ _ d.base _ BA1.out BB1.out).mono ?_;rintro e w2 ⟨rfl,hb⟩;have HB2:=Za (Zb HB1.out hb);have G2:=Za (G1.below hb (nlr _));have V2:=Za (V1.below hb (nlr _));have SA2:=Za (SA1.below hb (nlr _));have SB2:=Za (SB1.below hb (nlr _));have BA2:=Za (BA1.below hb (nlr _));have BB2:=Za (BB1.below hb (nlr _));have LA2:=Za (LA1.below hb (nlr _));have LB2:=Za (LB1.below hb (nlr _));have KA2:=Za (KA1.below hb (nlr _));have KB2:=Za (KB1.below hb (nlr _));clear HB1 hb G1 V1 SA1 SB1 BA1 BB1 LA1 LB1 KA1 KB1;obtain⟨cG0,cG1,cG2,cG3,cG4,cG5,cG6⟩:=G2.c7;obtain⟨cV0,cV1,cV2,cV3,cV4,cV5,cV6⟩:=V2.c7
 go_wp2_with fail
 refine(sameLog_yes _ _ d.log _ LA2.out LB2.out).mono ?_;rintro e w3 ⟨rfl,hb⟩;have HB3:=Za (Zb HB2.out hb);have G3:=Za (G2.below hb (nlr _));have V3:=Za (V2.below hb (nlr _));have SA3:=Za (SA2.below hb (nlr _));have SB3:=Za (SB2.below hb (nlr _));have BA3:=Za (BA2.below hb (nlr _));have BB3:=Za (BB2.below hb (nlr _));have LA3:=Za (LA2.below hb (nlr _));have LB3:=Za (LB2.below hb (nlr _));have KA3:=Za (KA2.below hb (nlr _));have KB3:=Za (KB2.below hb (nlr _));clear HB2 hb G2 V2 SA2 SB2 BA2 BB2 LA2 LB2 KA2 KB2;obtain⟨cG0,cG1,cG2,cG3,cG4,cG5,cG6⟩:=G3.c7;obtain⟨cV0,cV1,cV2,cV3,cV4,cV5,cV6⟩:=V3.c7
 go_wp2_with fail
 go_loopw [47] (fun i wr=>∃k:Nat,k≤d.known.length∧i=.int .i64 k∧Hid (Below w3.heap.size w3 wr)) (fun i _=>d.known.length - (intOf i).toNat)
 case atStart=>exact⟨0,Nat.zero_le _,rfl,Za (Below.refl _ _)⟩
 obtain⟨k,hk,rfl,HBk⟩:=hrel;obtain⟨w20,rfl⟩:∃w20,w20=wr:=⟨wr,rfl⟩;clear cG0 cG1 cG2 cG3 cG4 cG5 cG6 cV0 cV1 cV2 cV3 cV4 cV5 cV6;have HBw:=Za (Zb HB3.out HBk.out)
 by_cases hlt:k<d.known.length
 ·have hlt':(k:Int)<(d.known.length:Int):=by omega
  obtain⟨x,hx⟩:∃x,d.known[k]? =some x:=⟨_,List.getElem?_eq_getElem hlt⟩;have KA20:=KA3.below HBk.out (nlr _);have KB20:=KB3.below HBk.out (nlr _);obtain⟨p1,o1,a7,c7,hq1,hcell1,hr1⟩:=KA20.at hx;obtain⟨p2,o2,b7,e7,hq2,hcell2,hr2⟩:=KB20.at hx;subst hq1;subst hq2;have G20:=Za (G3.below HBk.out (nlr _));have V20:=Za (V3.below HBk.out (nlr _));have R1:=Za hr1;have R2:=Za hr2;have HC1:=Za hcell1;have HC2:=Za hcell2;clear hr1 hr2 hcell1 hcell2 KA20 KB20 hx;have HK:=Za fun w' (hg:Zh w20 w')=>And.intro ((G20.below hg (nlr _)).get 6 rfl) (And.intro ((V20.below hg (nlr _)).get 6 rfl) (And.intro ((hg.cell (p:=⟨p1,o1+k,none⟩) (World.block_lt_of_cell? w20 _ HC1.out)).trans HC1.out) ((hg.cell (p:=⟨p2,o2+k,none⟩) (World.block_lt_of_cell? w20 _ HC2.out)).trans HC2.out)))
  go_upto_region 6 with fail
  go_cut [61] (fun c wx=>c=.bool false∧Hid (Zh w20 wx))
  case first=>
   refine rgn HK.out fun wd hgd hHeld=>?_;refine ty 0 (.pointer (some ⟨w.heap.size,6,none⟩)) ?_;refine ty 1 (.slice (some ⟨p1,o1,none⟩) d.known.length c6) ?_;refine ty 2 (.int .i64 (k:Int)) ?_;refine ty 3 (.pointer (some ⟨p1,o1+k,none⟩)) ?_;refine ty 4 (.slice a7 x.length c7) ?_;refine ty 5 (.pointer (some ⟨w.heap.size+1,6,none⟩)) ?_;refine ty 6 (.slice (some ⟨p2,o2,none⟩) d.known.length e6) ?_;refine ty 7 (.int .i64 (k:Int)) ?_;refine ty 8 (.pointer (some ⟨p2,o2+k,none⟩)) ?_;refine ty 9 (.slice b7 x.length e7) ?_;refine wr 10 fun K hK=>?_;go_simp;refine(same_yesW _ _ x _ (R1.below hgd (nlr _)) (R2.below hgd (nlr _))).mono ?_;rintro e w_10 ⟨rfl,hb_10⟩;have hg_10:Zh w20 w_10:=Zd hgd hb_10;refine hK.out _ _ (HK.out _ hg_10) (fun _=>?_);clear hK K
   try simp only[Act.put,Zt,Zs,Zr]
   refine ty 11 (.bool false) ?_;refine wpAnyH_done (by kernel_rfl) ?_ _
   go_wp2_with fail
   go_meet
   exact⟨rfl,hg_10⟩
  obtain⟨rfl,HGR⟩:=hcut;obtain⟨w21,rfl⟩:∃w21,w21=wc:=⟨wc,rfl⟩;have HB21:=Za (Zb HBk.out HGR.out)
  go_wp2_with fail
  go_roundw
  case rel=>exact⟨k+1,by omega,by go_num,HB21⟩
  case measure=>simp[intOf];omega
 have hlt':¬(k:Int)<(d.known.length:Int):=by omega
 go_wp2_with fail
 go_ret
 exact⟨rfl,HBw.out⟩
end Go.Proofs.YtfhecilhcofboaaGreat
/- A node's variable that is set anew; what stands Jd of each law of chapter 6. -/
namespace Go.Proofs.YtfhecilhcofboaaGreat
open Go.RowKit

theorem Yo.setT{w:World}{B g:Nat}{v:Value}{d:NdS}{cs:List Value}(h:Yo w B v d)(hb:Box w g cs 31)(i:Nat)(x:Value):Yo (w.setCell ⟨g,i,Option.none⟩ x) B v d:=by
 obtain⟨cv,lv,tv,bv,uv,kv,h1,h2,h3,h4,h5⟩:=h;exact⟨cv,lv,tv,bv,uv,kv,h1,h2.setT hb (by decide) (by decide) (by decide) i x,h3.setT hb (by decide) i x,h4.setT hb (by decide) (by decide) i x,h5.setT hb (by decide) (by decide) i x⟩
theorem Uq.setT{w:World}{B g:Nat}{v:Value}{p:Pcl}{cs:List Value}(h:Uq w B v p)(hb:Box w g cs 31)(i:Nat)(x:Value):Uq (w.setCell ⟨g,i,Option.none⟩ x) B v p:=by
 obtain⟨cv,lv,tv,uv,kv,h1,h2,h3,h4⟩:=h;exact⟨cv,lv,tv,uv,kv,h1,h2.setT hb (by decide) (by decide) (by decide) i x,h3.setT hb (by decide) (by decide) i x,h4.setT hb (by decide) i x⟩
end Go.Proofs.YtfhecilhcofboaaGreat
/- What a call of the document's node functions works on; its own Prune, Send and Start. -/
namespace Go.Proofs.YtfhecilhcofboaaGreat
open Go.RowKit

def NdR(S:Nat→Prop)(w:World)(v:Value)(d:NdS):Prop:=∃x1 x2 x3 x4 x5 x6,v=.agg #[.int .i64 d.self,x1,x2,x3,x4,x5,x6]∧NdF S w x1 x2 x3 x4 x5 x6 d
def PcR(S:Nat→Prop)(w:World)(v:Value)(p:Pcl):Prop:=∃x1 x2 x3 x4 x5,v=.agg #[.bool p.whole,x1,x2,x3,x4,x5]∧PcF S w x1 x2 x3 x4 x5 p
section
variable {S:Nat→Prop}{b gr:Nat}{w W W':World}{v x1 x2 x3 x4 x5 x6:Value}{zs:List Value}{tz:TypeId}{d:NdS}{p:Pcl}
theorem NdR.form(h:NdR S w v d):∃a1 c1 a2 c2 a3 c3 a4 c4 a5 c5 a6 c6,v=.agg #[.int .i64 d.self,.slice a1 d.st.clock.length c1,.slice a2 d.st.lives.length c2,.slice a3 d.st.tals.length c3,.slice a4 d.base.length c4,.slice a5 d.log.length c5,.slice a6 d.known.length c6]∧NdF S w (.slice a1 d.st.clock.length c1) (.slice a2 d.st.lives.length c2) (.slice a3 d.st.tals.length c3) (.slice a4 d.base.length c4) (.slice a5 d.log.length c5) (.slice a6 d.known.length c6) d:=by
 obtain⟨x1,x2,x3,x4,x5,x6,rfl,hF⟩:=h;obtain⟨a1,c1,a2,c2,a3,c3,a4,c4,a5,c5,a6,c6,e,-⟩:=hF.node.form;simp only[Value.agg.injEq,Array.mk.injEq,List.cons.injEq,and_true,true_and]at e;obtain⟨rfl,rfl,rfl,rfl,rfl,rfl⟩:=e;exact⟨a1,c1,a2,c2,a3,c3,a4,c4,a5,c5,a6,c6,rfl,hF⟩
theorem yN{a g:Nat}{c0 c1 c2 c3 c4 c5 c6:Value}(hb:Box W g [c0,c1,c2,c3,c4,c5,c6] 31)(hF:NdF (Us S a b) W x1 x2 x3 x4 x5 x6 d)(HB:Below a w W)(h1:a≤g)(h2:g<b):
  Box (((((((W.setCell ⟨g,0,none⟩ (.int .i64 d.self)).setCell ⟨g,1,none⟩ x1).setCell ⟨g,2,none⟩ x2).setCell ⟨g,3,none⟩ x3).setCell ⟨g,4,none⟩ x4).setCell ⟨g,5,none⟩ x5).setCell ⟨g,6,none⟩ x6) g [.int .i64 d.self,x1,x2,x3,x4,x5,x6] 31∧NdF S (((((((W.setCell ⟨g,0,none⟩ (.int .i64 d.self)).setCell ⟨g,1,none⟩ x1).setCell ⟨g,2,none⟩ x2).setCell ⟨g,3,none⟩ x3).setCell ⟨g,4,none⟩ x4).setCell ⟨g,5,none⟩ x5).setCell ⟨g,6,none⟩ x6) x1 x2 x3 x4 x5 x6 d∧Below a w (((((((W.setCell ⟨g,0,none⟩ (.int .i64 d.self)).setCell ⟨g,1,none⟩ x1).setCell ⟨g,2,none⟩ x2).setCell ⟨g,3,none⟩ x3).setCell ⟨g,4,none⟩ x4).setCell ⟨g,5,none⟩ x5).setCell ⟨g,6,none⟩ x6):=by
 have hM:Us S a b g:=.inr ⟨h1,h2⟩;exact⟨(((((((hb.set 0 (.int .i64 d.self)).set 1 x1).set 2 x2).set 3 x3).set 4 x4).set 5 x5).set 6 x6),(hF.off ((((((((Off.refl _ _).set hM 0 (.int .i64 d.self)).set hM 1 x1).set hM 2 x2).set hM 3 x3).set hM 4 x4).set hM 5 x5).set hM 6 x6)).less,(Below.setCell (Below.setCell (Below.setCell (Below.setCell (Below.setCell (Below.setCell (Below.setCell HB (p:=⟨g,0,none⟩) h1 (.int .i64 d.self)) (p:=⟨g,1,none⟩) h1 x1) (p:=⟨g,2,none⟩) h1 x2) (p:=⟨g,3,none⟩) h1 x3) (p:=⟨g,4,none⟩) h1 x4) (p:=⟨g,5,none⟩) h1 x5) (p:=⟨g,6,none⟩) h1 x6)⟩
theorem fin6{a g:Nat}{c0 c1 c2 c3 c4 c5:Value}(hb:Box W g [c0,c1,c2,c3,c4,c5] 35)(hF:PcF (Us S a b) W x1 x2 x3 x4 x5 p)(HB:Below a w W)(h1:a≤g)(h2:g<b):
  Box ((((((W.setCell ⟨g,0,none⟩ (.bool p.whole)).setCell ⟨g,1,none⟩ x1).setCell ⟨g,2,none⟩ x2).setCell ⟨g,3,none⟩ x3).setCell ⟨g,4,none⟩ x4).setCell ⟨g,5,none⟩ x5) g [.bool p.whole,x1,x2,x3,x4,x5] 35∧PcF S ((((((W.setCell ⟨g,0,none⟩ (.bool p.whole)).setCell ⟨g,1,none⟩ x1).setCell ⟨g,2,none⟩ x2).setCell ⟨g,3,none⟩ x3).setCell ⟨g,4,none⟩ x4).setCell ⟨g,5,none⟩ x5) x1 x2 x3 x4 x5 p∧Below a w ((((((W.setCell ⟨g,0,none⟩ (.bool p.whole)).setCell ⟨g,1,none⟩ x1).setCell ⟨g,2,none⟩ x2).setCell ⟨g,3,none⟩ x3).setCell ⟨g,4,none⟩ x4).setCell ⟨g,5,none⟩ x5):=by
 have hM:Us S a b g:=.inr ⟨h1,h2⟩;have h:=hF.off (((((((Off.refl _ _).set hM 0 (.bool p.whole)).set hM 1 x1).set hM 2 x2).set hM 3 x3).set hM 4 x4).set hM 5 x5);exact⟨((((((hb.set 0 (.bool p.whole)).set 1 x1).set 2 x2).set 3 x3).set 4 x4).set 5 x5),⟨h.st.less,h.ups.less,h.clk.less⟩,(Below.setCell (Below.setCell (Below.setCell (Below.setCell (Below.setCell (Below.setCell HB (p:=⟨g,0,none⟩) h1 (.bool p.whole)) (p:=⟨g,1,none⟩) h1 x1) (p:=⟨g,2,none⟩) h1 x2) (p:=⟨g,3,none⟩) h1 x3) (p:=⟨g,4,none⟩) h1 x4) (p:=⟨g,5,none⟩) h1 x5)⟩
structure FrN (S:Nat→Prop) (b:Nat) (w W:World) (gr:Nat) (zs:List Value) (tz:TypeId) (x1 x2 x3 x4 x5 x6:Value) (d:NdS):Prop where
 box:Box W w.heap.size [.int .i64 d.self,x1,x2,x3,x4,x5,x6] 31
 res:Box W gr zs tz
 nd:NdF (Us S w.heap.size b) W x1 x2 x3 x4 x5 x6 d
 hb:Below w.heap.size w W
 lt:∀k,Us S w.heap.size b k→k<W.heap.size
 g1:w.heap.size<gr
 g2:gr<b
theorem FrN.step(h:FrN S b w W gr zs tz x1 x2 x3 x4 x5 x6 d)(hb:Below W.heap.size W W'):FrN S b w W' gr zs tz x1 x2 x3 x4 x5 x6 d:=
 ⟨h.box.below hb (nlr _),h.res.below hb (nlr _),h.nd.off (zM hb (nlr _)),Zb h.hb hb,fun k hk=>Nat.lt_of_lt_of_le (h.lt k hk) hb.size,h.g1,h.g2⟩
theorem mine_lt{a c:Nat}(hS:∀k,S k→k<a)(h:b≤c)(h':a≤b):∀k,Us S a b k→k<c:=fun k hk=>hk.elim (fun g=>by have:=hS k g;omega) fun g=>by omega
theorem FrN.off(h:FrN S b w W gr zs tz x1 x2 x3 x4 x5 x6 d)(i:Nat)(y:Value):Off (Us S w.heap.size b) W (W.setCell ⟨w.heap.size,i,none⟩ y):=(Off.refl _ W).set (.inr ⟨nlr _,Nat.lt_trans h.g1 h.g2⟩) i y
theorem FrN.base(h:FrN S b w W gr zs tz x1 x2 x3 x4 x5 x6 d){y:Value}{xs:List Int}(hy:Fix (Us S w.heap.size b) W fun w=>Row w y xs):FrN S b w (W.setCell ⟨w.heap.size,4,none⟩ y) gr zs tz x1 x2 x3 y x5 x6 ⟨d.self,d.st,xs,d.log,d.known⟩:=
 have o:=h.off 4 y
 ⟨h.box.set 4 y,h.res.away (Nat.ne_of_gt h.g1),⟨h.nd.st.off o,hy.off o,h.nd.log.off o,h.nd.kn.off o⟩,h.hb.setCell (nlr _) _,fun k hk=>by rw[World.size_setCell];exact h.lt k hk,h.g1,h.g2⟩
theorem FrN.log(h:FrN S b w W gr zs tz x1 x2 x3 x4 x5 x6 d){y:Value}{l:List Upd}(hy:Og (Us S w.heap.size b) W y l):FrN S b w (W.setCell ⟨w.heap.size,5,none⟩ y) gr zs tz x1 x2 x3 x4 y x6 ⟨d.self,d.st,d.base,l,d.known⟩:=
 have o:=h.off 5 y
 ⟨h.box.set 5 y,h.res.away (Nat.ne_of_gt h.g1),⟨h.nd.st.off o,h.nd.base.off o,hy.off o,h.nd.kn.off o⟩,h.hb.setCell (nlr _) _,fun k hk=>by rw[World.size_setCell];exact h.lt k hk,h.g1,h.g2⟩
theorem FrN.kn(h:FrN S b w W gr zs tz x1 x2 x3 x4 x5 x6 d){y:Value}{l:List (List Int)}(hy:KnF (Us S w.heap.size b) W y l):FrN S b w (W.setCell ⟨w.heap.size,6,none⟩ y) gr zs tz x1 x2 x3 x4 x5 y ⟨d.self,d.st,d.base,d.log,l⟩:=
 have o:=h.off 6 y
 ⟨h.box.set 6 y,h.res.away (Nat.ne_of_gt h.g1),⟨h.nd.st.off o,h.nd.base.off o,h.nd.log.off o,hy.off o⟩,h.hb.setCell (nlr _) _,fun k hk=>by rw[World.size_setCell];exact h.lt k hk,h.g1,h.g2⟩
theorem FrN.st(h:FrN S b w W gr zs tz x1 x2 x3 x4 x5 x6 d){y1 y2 y3:Value}{s:StS}(hy:Fix (Us S w.heap.size b) W fun w=>Jp w (.agg #[y1,y2,y3]) s):FrN S b w (((W.setCell ⟨w.heap.size,1,none⟩ y1).setCell ⟨w.heap.size,2,none⟩ y2).setCell ⟨w.heap.size,3,none⟩ y3) gr zs tz y1 y2 y3 x4 x5 x6 ⟨d.self,s,d.base,d.log,d.known⟩:=
 have hM:Us S w.heap.size b w.heap.size:=.inr ⟨nlr _,Nat.lt_trans h.g1 h.g2⟩;have o:Off (Us S w.heap.size b) W (((W.setCell ⟨w.heap.size,1,none⟩ y1).setCell ⟨w.heap.size,2,none⟩ y2).setCell ⟨w.heap.size,3,none⟩ y3):=(((Off.refl _ W).set hM 1 y1).set hM 2 y2).set hM 3 y3
 ⟨((h.box.set 1 y1).set 2 y2).set 3 y3,((h.res.away (Nat.ne_of_gt h.g1)).away (Nat.ne_of_gt h.g1)).away (Nat.ne_of_gt h.g1),⟨hy.off o,h.nd.base.off o,h.nd.log.off o,h.nd.kn.off o⟩,((h.hb.setCell (nlr _) _).setCell (nlr _) _).setCell (nlr _) _,fun k hk=>by rw[World.size_setCell,World.size_setCell,World.size_setCell];exact h.lt k hk,h.g1,h.g2⟩
theorem right_log(h:Vi d=0){xs:List Int}(hx:xs.length=d.st.clock.length):∀u ∈ d.log,FitU u∧u.author<xs.length:=fun u hu=>by
 have hw:=small_all d.log (Vk.1 h).fits u hu;exact⟨xY hw,by rw[hx];exact(Xj hw).2.2.1⟩
theorem joinC_long{xs ys:List Int}{n:Nat}(h:xs.length=n)(h':ys.length=n):(joinC xs ys).length=n:=by
 rw[Oz];unfold Vq
 split <;> omega
end
theorem Box.six{w:World}{g:Nat}{x0 x1 x2 x3 x4 x5:Value}{t:TypeId}(h:Box w g [x0,x1,x2,x3,x4,x5] t):
  w.cell? ⟨g,0,none⟩=some x0∧w.frozen? ⟨g,0,none⟩=false∧w.cell? ⟨g,1,none⟩=some x1∧w.frozen? ⟨g,1,none⟩=false∧w.cell? ⟨g,2,none⟩=some x2∧w.frozen? ⟨g,2,none⟩=false∧w.cell? ⟨g,3,none⟩=some x3∧w.frozen? ⟨g,3,none⟩=false∧w.cell? ⟨g,4,none⟩=some x4∧w.frozen? ⟨g,4,none⟩=false∧w.cell? ⟨g,5,none⟩=some x5∧w.frozen? ⟨g,5,none⟩=false:=
 ⟨h.get 0 rfl,h.free 0,h.get 1 rfl,h.free 1,h.get 2 rfl,h.free 2,h.get 3 rfl,h.free 3,h.get 4 rfl,h.free 4,h.get 5 rfl,h.free 5⟩
theorem PcF.none{S:Nat→Prop}{w:World}:PcF S w (.slice none 0 0) (.slice none 0 0) (.slice none 0 0) (.slice none 0 0) (.slice none 0 0) noPcl:=
 ⟨fun _ _=>⟨_,_,_,rfl,Row.nil _,Yf.nil _,Yf.nil _⟩,⟨[],rfl,fun _ _=>Yf.nil _,fun _ h=>by simp at h⟩,fun _ _=>Row.nil _⟩

set_option maxRecDepth 100000 in
set_option maxHeartbeats 4000000 in
theorem prune_ref{S:Nat→Prop}{v:Value}{d:NdS}(w:World)(h:NdR S w v d)(hS:∀k,S k→k<w.heap.size):
  Calls Tryz.prog 18 #[v] w fun e w'=>∃rv,e=.returned (.tuple #[rv,.int .i64 (Vi d)])∧NdR S w' rv (yM d)∧Below w.heap.size w w':=by
 obtain⟨a1,c1,a2,c2,a3,c3,a4,c4,a5,c5,a6,c6,rfl,hF⟩:=h.form;obtain⟨w0,HW,G0,R0,HB0,hs0⟩:=lay2 w [.int .i64 d.self,.slice a1 d.st.clock.length c1,.slice a2 d.st.lives.length c2,.slice a3 d.st.tals.length c3,.slice a4 d.base.length c4,.slice a5 d.log.length c5,.slice a6 d.known.length c6] 31 [.int .i64 0,.slice none 0 0,.slice none 0 0,.slice none 0 0,.slice none 0 0,.slice none 0 0,.slice none 0 0] 31;have Q0:=Za (FrN.mk G0.out R0.out (hF.more (b:=w.heap.size+1+1) HB0.out) HB0.out (mine_lt hS (Nat.le_of_eq hs0.out.symm) (by omega)) (by omega) (by omega));obtain⟨N,HN⟩:∃N,Hid (Vi d=N):=⟨_,rfl⟩;obtain⟨X,HX⟩:∃X,Hid (yM d=X):=⟨_,rfl⟩;rw[HN.out,HX.out];clear h hF G0 R0 HB0 hs0 hS;obtain⟨g0,g1,g2,g3,g4,g5,g6⟩:=Q0.box.c7
 go_enter Tryz.func18,Tryz.ntmps18
 go_upto_region 1 with fail
 rw[HW.out]
 go_wp2_with fail
 refine(Oh _ d _ Q0.nd.node).mono ?_;rintro e w1 ⟨rfl,hb1⟩;rw[HN.out];have Q1:=Za (Q0.step hb1);clear g0 g1 g2 g3 g4 g5 g6 Q0 hb1
 by_cases hN:N=0
 rotate_left
 ·have hN':(N != 0)=true:=by simp[hN]
  obtain rfl:Yu=X:=by rw[←HX.out];unfold yM;rw[if_neg (by rw[HN.out];exact hN)]
  clear hN;obtain⟨r0,e0,r1,e1,r2,e2,r3,e3,r4,e4,r5,e5,r6,e6⟩:=Q1.res.seven
  go_wp2_with fail
  obtain⟨hR,hV,hB⟩:=yN (S:=S) (d:=Yu) Q1.res NdF.none Q1.hb (by omega) Q1.g2;exact bodyPost_ret (Zc rfl _ _ (w.heap.size+1) 31 _ (0,0) _ rfl hR Tryz.underlying31 rfl Tryz.sizeNode) rfl ⟨_,rfl,⟨_,_,_,_,_,_,rfl,hV⟩,hB⟩
 have hN':(N != 0)=false:=by simp[hN]
 have hNz:Vi d=0:=by rw[HN.out];exact hN
 have HF:=Za (yF hNz);have HXX:Hid (Qp d (allC d)=X):=by unfold Hid;rw[←HX.out];unfold yM;rw[if_pos hNz]
 have HAL:=Za (Vk.1 hNz).all;have HBL:=Za (Zm.1 (Vk.1 hNz).base);have HRL:=Za (fun xs=>right_log hNz (xs:=xs));subst hN;clear hNz;have hkl:=Q1.nd.kn.kn.len_le;obtain⟨g0,g1,g2,g3,g4,g5,g6⟩:=Q1.box.c7
 go_wp2_with fail
 clear g0 g1 g2 g3 g4 g5 g6;have hc6:=HF.clock
 go_loopw [5,20] (fun c i wr=>∃k:Nat,k≤d.known.length∧i=.int .i64 k∧Hid (Row wr c ((d.known.take k).foldl Vt d.st.clock))∧Hid (((d.known.take k).foldl Vt d.st.clock).length≤6)∧Hid (Below w1.heap.size w1 wr)) (fun _ i _=>d.known.length - (intOf i).toNat)
 case atStart=>exact⟨0,Nat.zero_le _,rfl,(Jq Q1.nd.st).here,Za hc6,Za (Below.refl _ _)⟩
 obtain⟨k,hk,rfl,C2,H6,HB2⟩:=hrel;obtain⟨w2,rfl⟩:∃w2,w2=wr:=⟨wr,rfl⟩;have Q2:=Za (Q1.step HB2.out);obtain⟨F,HF0⟩:∃F,Hid ((d.known.take k).foldl Vt d.st.clock=F):=⟨_,rfl⟩;rw[HF0.out]at C2 H6;obtain⟨aF,cF,rfl,-⟩:=id C2.out
 by_cases hlt:k<d.known.length
 ·obtain⟨x,hx⟩:∃x,d.known[k]? =some x:=⟨_,List.getElem?_eq_getElem hlt⟩;have hx6:=HF.known x (List.mem_of_getElem? hx);obtain⟨b,off,a7,c7,rfl,hcell,hrow⟩:=Q2.nd.kn.kn.at hx;have X2:=Za hrow;have hlt':(k:Int)<(d.known.length:Int):=by omega
  have HTK:Hid ((d.known.take (k+1)).foldl Vt d.st.clock=Vt F x):=by unfold Hid;rw[List.take_add_one,hx];simp only[Option.toList_some,List.foldl_append,List.foldl_cons,List.foldl_nil,HF0.out]
  have h66:=H6.out;clear hrow hx
  go_wp2_with fail
  refine(meet_ref _ _ F x _ C2.out X2.out (by omega) (by omega)).mono ?_;rintro e w3 ⟨v3,rfl,ho3,hb3⟩;have HB3:=Za (Zb HB2.out hb3);have C3:=Za ho3.row;have H3:=Za (meet_few h66 hx6);clear ho3 hb3 hcell
  go_wp2_with fail
  go_roundw
  case rel=>exact⟨k+1,by omega,by go_num,by rw[HTK.out];exact C3,by rw[HTK.out];exact H3,HB3⟩
  case measure=>simp[intOf];omega
 have hlt':¬(k:Int)<(d.known.length:Int):=by omega
 have HFF:Hid (allC d=F):=by unfold Hid;rw[←HF0.out,List.take_of_length_le (by omega)];rfl
 have hFl:Hid (F.length=d.st.clock.length):=by unfold Hid;rw[←HFF.out];have:=(Zm.1 HAL.1);omega
 have hbl:Hid (d.base.length=d.st.clock.length):=by unfold Hid;have:=HBL.out;omega
 have HJL:=Za (joinC_long hbl.out hFl.out);have b4:=Q2.box.get 4 rfl;clear Q1 HB2
 go_wp2_with fail
 refine(join_ref _ _ d.base F _ Q2.nd.base.here C2.out (by have:=hbl.out;omega) (by have:=hFl.out;omega)).mono ?_;rintro e w3 ⟨v3,rfl,ho3,hb3⟩;have hy:=ho3.fix Q2.lt;have Q3:=Q2.step hb3;have Q4:=Q3.base hy;have C4:=(Q4.nd.base).here;obtain⟨aJ,cJ,rfl,-⟩:=id ho3.row;have b4':=Q3.box.get 4 rfl;have f4:=Q3.box.free 4;obtain⟨w4,HW4⟩:∃w4,Hid (w3.setCell ⟨w.heap.size,4,none⟩ (.slice aJ (joinC d.base F).length cJ)=w4):=⟨_,rfl⟩;rw[HW4.out]at Q4 C4;have HQ4:=Za Q4;have HC4:=Za C4;clear hy Q2 Q3 Q4 C4 ho3 hb3 b4 C2;obtain⟨J,HJ⟩:∃J,Hid (joinC d.base F=J):=⟨_,rfl⟩;rw[HJ.out]at HQ4 HC4 HJL HW4;rw[HJ.out]
 go_upto_region 11 with fail
 rw[HW4.out];clear b4' f4;have b4:=HQ4.box.get 4 rfl;have b5:=HQ4.box.get 5 rfl
 go_wp2_with fail
 refine(lacks_fix _ HQ4.nd.log HC4.out (HRL.out J HJL.out) (by have:=HF.few;simp only;omega) HQ4.lt rfl).mono ?_;rintro e w5 ⟨v5,rfl,ho5,hb5⟩;have Q5:=HQ4.step hb5;have Q6:=Za (Q5.log ho5);obtain⟨aL,cL,rfl,-⟩:=id ho5.log;have b5':=Q5.box.get 5 rfl;have f5:=Q5.box.free 5;obtain⟨w6,HW6⟩:∃w6,Hid (w5.setCell ⟨w.heap.size,5,none⟩ (.slice aL (Yc d.log J).length cL)=w6):=⟨_,rfl⟩;simp only[HW6.out]at Q6;clear Q5 ho5 hb5 HQ4 b4 b5 HC4
 go_upto_region 12 with fail
 rw[HW6.out];clear b5' f5;obtain rfl:(⟨d.self,d.st,J,Yc d.log J,d.known⟩:NdS)=X:=by rw[←HXX.out,HFF.out,←HJ.out];rfl
 obtain⟨g0,g1,g2,g3,g4,g5,g6⟩:=Q6.box.c7;obtain⟨r0,e0,r1,e1,r2,e2,r3,e3,r4,e4,r5,e5,r6,e6⟩:=Q6.res.seven
 go_wp2_with fail
 obtain⟨hR,hV,hB⟩:=yN Q6.res Q6.nd Q6.hb (by omega) Q6.g2;exact bodyPost_ret (Zc rfl _ _ (w.heap.size+1) 31 _ (0,0) _ rfl hR Tryz.underlying31 rfl Tryz.sizeNode) rfl ⟨_,rfl,⟨_,_,_,_,_,_,rfl,hV⟩,hB⟩

set_option maxRecDepth 100000 in
set_option maxHeartbeats 4000000 in
theorem send_ref{S:Nat→Prop}{v:Value}{d:NdS}(i:Int)(w:World)(h:NdR S w v d)(hS:∀k,S k→k<w.heap.size):
  Calls Tryz.prog 13 #[v,.int .i64 i] w fun e w'=>∃rv,e=.returned (.tuple #[rv,.int .i64 (Jj d i)])∧PcR S w' rv (sendX d i)∧Below w.heap.size w w':=by
 obtain⟨a1,c1,a2,c2,a3,c3,a4,c4,a5,c5,a6,c6,rfl,hF⟩:=h.form;obtain⟨w0,HW,G0,R0,HB0,hs0⟩:=lay2 w [.int .i64 d.self,.slice a1 d.st.clock.length c1,.slice a2 d.st.lives.length c2,.slice a3 d.st.tals.length c3,.slice a4 d.base.length c4,.slice a5 d.log.length c5,.slice a6 d.known.length c6] 31 [.bool false,.slice none 0 0,.slice none 0 0,.slice none 0 0,.slice none 0 0,.slice none 0 0] 35;have Q0:=Za (FrN.mk G0.out R0.out (hF.more (b:=w.heap.size+1+1) HB0.out) HB0.out (mine_lt hS (Nat.le_of_eq hs0.out.symm) (by omega)) (by omega) (by omega));obtain⟨E,HE⟩:∃E,Hid (Jj d i=E):=⟨_,rfl⟩;obtain⟨X,HX⟩:∃X,Hid (sendX d i=X):=⟨_,rfl⟩;rw[HE.out,HX.out];unfold sendX at HX;rw[HE.out]at HX;unfold Jj at HE;obtain⟨N,HN⟩:∃N,Hid (Vi d=N):=⟨_,rfl⟩;rw[HN.out]at HE;clear h hF G0 R0 HB0 hs0 hS;obtain⟨g0,g1,g2,g3,g4,g5,g6⟩:=Q0.box.c7
 go_enter Tryz.func13,Tryz.ntmps13
 go_upto_region 1 with fail
 rw[HW.out]
 go_wp2_with fail
 refine(Oh _ d _ Q0.nd.node).mono ?_;rintro e w1 ⟨rfl,hb1⟩;rw[HN.out];have Q1:=Za (Q0.step hb1);clear g0 g1 g2 g3 g4 g5 g6 Q0 hb1
 by_cases hN:N=0
 rotate_left
 ·have hN':(N != 0)=true:=by simp[hN]
  rw[if_neg hN]at HE;obtain rfl:=HE.out;rw[if_neg hN]at HX;obtain rfl:=HX.out;clear hN;obtain⟨r0,e0,r1,e1,r2,e2,r3,e3,r4,e4,r5,e5⟩:=Q1.res.six
  go_wp2_with fail
  obtain⟨hR,hV,hB⟩:=fin6 (S:=S) (p:=noPcl) Q1.res PcF.none Q1.hb (by omega) Q1.g2;exact bodyPost_ret (Zc rfl _ _ (w.heap.size+1) 35 _ (0,0) _ rfl hR Tryz.underlying35 rfl Tryz.sizeParcel) rfl ⟨_,rfl,⟨_,_,_,_,_,rfl,hV⟩,hB⟩
 have hN':(N != 0)=false:=by simp[hN]
 have hNz:Vi d=0:=by rw[HN.out];exact hN
 rw[if_pos hN]at HE;have HF:=Za (yF hNz);have HO:=Za (Vk.1 hNz);have HRL:=Za (fun xs=>right_log hNz (xs:=xs));have HKL:=Za HO.kl;clear hNz hN;have hkl:=Q1.nd.kn.kn.len_le;obtain⟨g0,g1,g2,g3,g4,g5,g6⟩:=Q1.box.c7
 by_cases q0:i<0
 ·rw[if_neg (by omega)]at HE;obtain rfl:=HE.out;obtain rfl:=HX.out;obtain⟨r0,e0,r1,e1,r2,e2,r3,e3,r4,e4,r5,e5⟩:=Q1.res.six
  go_wp2_with fail
  obtain⟨hR,hV,hB⟩:=fin6 (S:=S) (p:=noPcl) Q1.res PcF.none Q1.hb (by omega) Q1.g2;exact bodyPost_ret (Zc rfl _ _ (w.heap.size+1) 35 _ (0,0) _ rfl hR Tryz.underlying35 rfl Tryz.sizeParcel) rfl ⟨_,rfl,⟨_,_,_,_,_,rfl,hV⟩,hB⟩
 by_cases q1:(d.known.length:Int)≤i
 ·rw[if_neg (by have:=HKL.out;omega)]at HE;obtain rfl:=HE.out;obtain rfl:=HX.out;obtain⟨r0,e0,r1,e1,r2,e2,r3,e3,r4,e4,r5,e5⟩:=Q1.res.six
  go_wp2_with fail
  obtain⟨hR,hV,hB⟩:=fin6 (S:=S) (p:=noPcl) Q1.res PcF.none Q1.hb (by omega) Q1.g2;exact bodyPost_ret (Zc rfl _ _ (w.heap.size+1) 35 _ (0,0) _ rfl hR Tryz.underlying35 rfl Tryz.sizeParcel) rfl ⟨_,rfl,⟨_,_,_,_,_,rfl,hV⟩,hB⟩
 rw[if_pos (by have:=HKL.out;omega)]at HE
 by_cases q2:i=d.self
 ·rw[if_pos q2]at HE;obtain rfl:=HE.out;obtain rfl:=HX.out;have q2':(i==d.self)=true:=by simp[q2]
  clear q2;obtain⟨r0,e0,r1,e1,r2,e2,r3,e3,r4,e4,r5,e5⟩:=Q1.res.six
  go_wp2_with fail
  obtain⟨hR,hV,hB⟩:=fin6 (S:=S) (p:=noPcl) Q1.res PcF.none Q1.hb (by omega) Q1.g2;exact bodyPost_ret (Zc rfl _ _ (w.heap.size+1) 35 _ (0,0) _ rfl hR Tryz.underlying35 rfl Tryz.sizeParcel) rfl ⟨_,rfl,⟨_,_,_,_,_,rfl,hV⟩,hB⟩
 rw[if_neg q2]at HE;obtain rfl:=HE.out;have q2':(i==d.self)=false:=by simp[q2]
 clear q2;obtain⟨k,rfl⟩:∃k:Nat,i=k:=⟨i.toNat,by omega⟩;obtain⟨x,hx⟩:∃x,d.known[k]? =some x:=⟨_,List.getElem?_eq_getElem (by omega)⟩;rw[if_pos rfl,Int.toNat_natCast,List.getD_eq_getElem?_getD,hx,Option.getD_some]at HX
 have HXL:Hid (x.length=d.st.clock.length):=by
  have h1:=(HO.kg k (by omega)).1;rw[List.getD_eq_getElem?_getD,hx,Option.getD_some]at h1;have:=Zm.1 h1;unfold Hid;omega
 obtain⟨b,off,a7,c7,rfl,hcell,hrow⟩:=Q1.nd.kn.kn.at hx;have X1:=Za hrow;have q1':(k:Int)<(d.known.length:Int):=by omega
 obtain⟨s1,HS1⟩:∃s,Hid (Ju x d.base=s):=⟨_,rfl⟩;rw[HS1.out]at HX;clear hrow hx;have HK8:=Za fun w' (hg:Zh w1 w')=>(And.intro (Yi hg g6) (And.intro (Yi hg g4) (Yi hg hcell)))
 go_upto_region 8 with fail
 clear g0 g1 g2 g3 g4 g5 g6;refine bD (fun _=>false) (fun _=>True) (Zi _) HK8.out fun wd hcd hHeld=>?_;refine yD 0 (.pointer (some ⟨w.heap.size,6,none⟩)) ?_;refine yD 1 (.slice (some ⟨b,off,none⟩) d.known.length c6) ?_;refine yD 2 (.int .i64 (k:Int)) ?_;refine yD 3 (.pointer (some ⟨b,off+k,none⟩)) ?_;refine yD 4 (.slice a7 x.length c7) ?_;refine yD 5 (.pointer (some ⟨w.heap.size,4,none⟩)) ?_;refine yD 6 (.slice a4 d.base.length c4) ?_;refine oD 7 fun K hK=>?_;go_simp;refine(sees_ref _ _ x d.base _ (X1.below hcd (nlr _)) (Q1.step hcd).nd.base.here).mono ?_;rintro e w' ⟨rfl,hw'⟩;rw[hw',HS1.out];clear hw' w';go_simp;have hH_7:=HK8.out _ hcd;refine kS hK hH_7 ?_;clear hK K;refine eD ?_;obtain⟨w2,rfl⟩:∃w2,w2=wd:=⟨wd,rfl⟩;have Q2:=Za (Q1.step hcd);have X2:=Za (X1.below hcd (nlr _))
 cases s1
 rotate_left
 ·rw[if_pos rfl]at HX;obtain rfl:=HX.out;obtain⟨g0,g1,g2,g3,g4,g5,g6⟩:=Q2.box.c7;have hcell:=Yi hcd hcell;have HK9:=Za fun w' (hg:Zh w2 w')=>(And.intro (Yi hg g5) (And.intro (Yi hg g6) (And.intro (Yi hg g1) (Yi hg hcell))))
  go_upto_region 9 with fail
  clear g0 g1 g2 g3 g4 g5 g6 hcd;refine bD (fun i=>i==12||i==13) (fun _=>True) (Zi _) HK9.out fun wd hcd hHeld=>?_;refine yD 0 (.pointer (some ⟨w.heap.size,5,none⟩)) ?_;refine yD 1 (.slice a5 d.log.length c5) ?_;refine yD 2 (.pointer (some ⟨w.heap.size,6,none⟩)) ?_;refine yD 3 (.slice (some ⟨b,off,none⟩) d.known.length c6) ?_;refine yD 4 (.int .i64 (k:Int)) ?_;refine yD 5 (.pointer (some ⟨b,off+k,none⟩)) ?_;refine yD 6 (.slice a7 x.length c7) ?_;refine yD 8 (.pointer (some ⟨w.heap.size,1,none⟩)) ?_;refine yD 9 (.pointer (some ⟨w.heap.size,1,none⟩)) ?_;refine yD 10 (.slice a1 d.st.clock.length c1) ?_;refine oD 7 fun K hK=>?_;go_simp;refine(lacks_fix _ (Q2.step hcd).nd.log (X2.below hcd (nlr _)) (HRL.out x HXL.out) (by have:=HF.few;omega) (Q2.step hcd).lt rfl).mono ?_;rintro e w_7 ⟨v7,rfl,ho7,hb_7⟩;obtain⟨aL,cL,rfl,-⟩:=id ho7.log;go_simp;have hg_7:Zh w2 w_7:=Zd hcd hb_7;have hH_7:=HK9.out _ hg_7;refine kS hK hH_7 ?_;clear hK K;refine yD 11 (.agg #[.bool false,.slice none 0 0,.slice none 0 0,.slice none 0 0,.slice aL (Yc d.log x).length cL,.slice a1 d.st.clock.length c1]) ?_;refine oD 12 fun K hK=>?_;have Q7:=Za (Q2.step hg_7);obtain⟨r0,e0,r1,e1,r2,e2,r3,e3,r4,e4,r5,e5⟩:=Q7.res.six;go_simp;refine kD hK (trivial) ?_;clear hK K;refine oD 13 fun K hK=>?_;go_simp;refine kD hK (trivial) ?_;clear hK K;refine eD ?_
  go_wp2_with fail
  obtain⟨hR,hV,hB⟩:=fin6 (S:=S) (p:=⟨false,⟨[],[],[]⟩,Yc d.log x,d.st.clock⟩) Q7.res ⟨PcF.none.st,ho7,Jq Q7.nd.st⟩ Q7.hb (by omega) Q7.g2;exact bodyPost_ret (Zc rfl _ _ (w.heap.size+1) 35 _ (0,0) _ rfl hR Tryz.underlying35 rfl Tryz.sizeParcel) rfl ⟨_,rfl,⟨_,_,_,_,_,rfl,hV⟩,hB⟩
 rw[if_neg (by decide)]at HX;obtain rfl:=HX.out;obtain⟨g0,g1,g2,g3,g4,g5,g6⟩:=Q2.box.c7;obtain⟨r0,e0,r1,e1,r2,e2,r3,e3,r4,e4,r5,e5⟩:=Q2.res.six
 go_wp2_with fail
 obtain⟨hR,hV,hB⟩:=fin6 (S:=S) (p:=⟨true,d.st,[],d.st.clock⟩) Q2.res ⟨Q2.nd.st,PcF.none.ups,Jq Q2.nd.st⟩ Q2.hb (by omega) Q2.g2;exact bodyPost_ret (Zc rfl _ _ (w.heap.size+1) 35 _ (0,0) _ rfl hR Tryz.underlying35 rfl Tryz.sizeParcel) rfl ⟨_,rfl,⟨_,_,_,_,_,rfl,hV⟩,hB⟩
end Go.Proofs.YtfhecilhcofboaaGreat
