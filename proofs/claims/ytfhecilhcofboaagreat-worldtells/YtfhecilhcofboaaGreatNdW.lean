/- What is wrong with a node: node.Wrong, and what it asks. -/
import Derived.Test.YtfhecilhcofboaaGreatNdMem
import Derived.Test.YtfhecilhcofboaaGreatReads
namespace Go.Proofs.YtfhecilhcofboaaGreat
open Go.RowKit

theorem Tryz.sizeNode:(Tryz.prog.info? 31).map (·.size)=some 7:=by kernel_rfl
set_option maxRecDepth 100000 in
set_option maxHeartbeats 400000 in
theorem zS(v u:Value)(xs ys:List Int)(w:World)(h:Row w v xs)(hu:Row w u ys):
  Calls Tryz.prog 30 #[v,u] w fun e w'=>e=.returned (.bool (decide (xs=ys)))∧Below w.heap.size w w':=by
 have hx:=h.len_le;have hy:=hu.len_le;obtain⟨a,cap,rfl,hl,hm,hc⟩:=h;obtain⟨a',cap',rfl,hl',hm',hc'⟩:=hu;clear hl hm hl' hm'
 by_cases hlen:xs.length=ys.length
 ·have hne:((xs.length:Int) != (ys.length:Int))=false:=by simp;omega
  have HL:=Za hlen;clear hlen
  go_enter Tryz.func30,Tryz.ntmps30
  go_wp2
  go_loopw [13] (fun i wr=>∃k:Nat,k≤xs.length∧i=.int .i64 k∧Hid (xs.take k=ys.take k)∧Below w.heap.size w wr) (fun i _=>xs.length - (intOf i).toNat)
  case atStart=>exact⟨0,Nat.zero_le _,rfl,Za (by simp),Below.refl _ _⟩
  obtain⟨k,hk,rfl,hall,hb⟩:=hrel;have hky:k≤ys.length:=by rw[←HL.out];exact hk
  by_cases hlt:k<xs.length
  ·have hlty:k<ys.length:=by rw[←HL.out];exact hlt
   obtain⟨b,off,rfl,hcell⟩:=hc k hlt;obtain⟨b',off',rfl,hcell'⟩:=hc' k hlty;clear hc hc';obtain⟨y,HY⟩:∃y,Hid (xs.getD k 0=y):=⟨_,rfl⟩;obtain⟨z,HZ⟩:∃y,Hid (ys.getD k 0=y):=⟨_,rfl⟩;rw[HY.out]at hcell;rw[HZ.out]at hcell';have c1:=(hb.cell (World.block_lt_of_cell? w _ hcell)).trans hcell;have c2:=(hb.cell (World.block_lt_of_cell? w _ hcell')).trans hcell';have hlt':(k:Int)<(xs.length:Int):=by omega
   have hlty':(k:Int)<(ys.length:Int):=by omega
   clear hcell hcell'
   by_cases he:y=z
   ·have hq:(y != z)=false:=by simp[he]
    have HE:=Za he;clear he
    go_wp2
    go_quiet (fail)
    go_wp2
    go_roundw
    case rel=>exact⟨k+1,by omega,by go_num,Za (take_same hlt hlty hall.out (by rw[HY.out,HZ.out,HE.out])),Yp hb _⟩
    case measure=>simp[intOf];omega
   have hq:(y != z)=true:=by simp[he]
   have HE:=Za he;clear he
   go_wp2
   go_quiet (fail)
   go_wp2
   go_ret
   exact⟨Jl (same_one (by rw[HY.out,HZ.out];exact HE.out)),Yp hb _⟩
  go_wp2
  go_ret
  exact⟨Jl (same_all hlt HL.out hall.out),hb⟩
 have hne:((xs.length:Int) != (ys.length:Int))=true:=by simp;omega
 have HL:=Za hlen;clear hlen
 go_enter Tryz.func30,Tryz.ntmps30
 go_wp2
 go_ret
 exact⟨Jl (same_len HL.out),Below.refl _ _⟩

theorem Vp.form{w:World}{v:Value}{d:NdS}(h:Vp w v d):∃a1 c1 a2 c2 a3 c3 a4 c4 a5 c5 a6 c6,v=.agg #[.int .i64 d.self,.slice a1 d.st.clock.length c1,.slice a2 d.st.lives.length c2,.slice a3 d.st.tals.length c3,.slice a4 d.base.length c4,.slice a5 d.log.length c5,.slice a6 d.known.length c6]∧
  Jp w (.agg #[.slice a1 d.st.clock.length c1,.slice a2 d.st.lives.length c2,.slice a3 d.st.tals.length c3]) d.st∧Row w (.slice a1 d.st.clock.length c1) d.st.clock∧Row w (.slice a4 d.base.length c4) d.base∧Vh w (.slice a5 d.log.length c5) d.log∧KnV w (.slice a6 d.known.length c6) d.known:=by
 obtain⟨cv,lv,tv,bv,uv,kv,rfl,hs,hb,hl,hk⟩:=h;have hs0:=hs;obtain⟨cv',lv',tv',he,hc,hv,ht⟩:=hs;simp only[Value.agg.injEq,Array.mk.injEq,List.cons.injEq,and_true]at he;obtain⟨rfl,rfl,rfl⟩:=he;obtain⟨a1,c1,rfl,-,-,-⟩:=id hc;obtain⟨a2,c2,rfl,-,-,-⟩:=id hv;obtain⟨a3,c3,rfl,-,-,-⟩:=id ht;obtain⟨a4,c4,rfl,-,-,-⟩:=id hb;obtain⟨a5,c5,rfl,-,-,-⟩:=id hl;obtain⟨a6,c6,rfl,-,-,-⟩:=id hk;exact⟨a1,c1,a2,c2,a3,c3,a4,c4,a5,c5,a6,c6,rfl,hs0,hc,hb,hl,hk⟩

set_option maxRecDepth 100000 in
set_option maxHeartbeats 1000000 in
theorem Yv(v:Value)(d:NdS)(w:World)(h:Vp w v d):
  Calls Tryz.prog 27 #[v] w fun e w'=>e=.returned (.int .i64 d.st.clock.length)∧Below w.heap.size w w':=by
 obtain⟨a1,c1,a2,c2,a3,c3,a4,c4,a5,c5,a6,c6,rfl,-,hc,-,-,-⟩:=h.form;have hlen:=hc.len_le;have HB0:=Za (bpl w (.cells #[.int .i64 d.self,.slice a1 d.st.clock.length c1,.slice a2 d.st.lives.length c2,.slice a3 d.st.tals.length c3,.slice a4 d.base.length c4,.slice a5 d.log.length c5,.slice a6 d.known.length c6] 31));clear h hc
 go_enter Tryz.func27,Tryz.ntmps27
 go_wp2_with fail
 go_ret
 exact⟨rfl,HB0.out⟩
set_option maxRecDepth 100000 in
set_option maxHeartbeats 1000000 in
theorem Vu(v:Value)(d:NdS)(i:Int)(w:World)(h:Vp w v d):
  Calls Tryz.prog 23 #[v,.int .i64 i] w fun e w'=>e=.returned (.bool (decide (0≤i∧i<d.st.clock.length)))∧Below w.heap.size w w':=by
 obtain⟨a1,c1,a2,c2,a3,c3,a4,c4,a5,c5,a6,c6,rfl,-,hc,-,-,-⟩:=h.form;have HB0:=Za (bpl w (.cells #[.int .i64 d.self,.slice a1 d.st.clock.length c1,.slice a2 d.st.lives.length c2,.slice a3 d.st.tals.length c3,.slice a4 d.base.length c4,.slice a5 d.log.length c5,.slice a6 d.known.length c6] 31));have C0:=Za (hc.below HB0.out (nlr _));clear h hc
 by_cases hi:0≤i∧i<d.st.clock.length
 ·rw[decide_eq_true hi];have H0:=Za hi;clear hi
  go_enter Tryz.func23,Tryz.ntmps23
  go_wp2_with fail
  refine(Ye _ d.st.clock i _ C0.out H0.1 H0.2).mono ?_;rintro e w1 ⟨rfl,rfl⟩
  go_wp2_with fail
  go_ret
  exact⟨rfl,HB0.out⟩
 rw[decide_eq_false hi];have H0:=Za hi;clear hi
 go_enter Tryz.func23,Tryz.ntmps23
 go_wp2_with fail
 refine(Vv _ d.st.clock i _ C0.out (by have:=H0.out;omega)).mono ?_;rintro e w1 ⟨rfl,rfl⟩
 go_wp2_with fail
 go_ret
 exact⟨rfl,HB0.out⟩

set_option maxRecDepth 100000 in
set_option maxHeartbeats 2000000 in
theorem knownWrong_node(v:Value)(d:NdS)(k:Nat)(w:World)(h:Vp w v d)(hk:k<d.known.length):
  Calls Tryz.prog 31 #[v,.int .i64 k] w fun e w'=>e=.returned (.int .i64 (Qm d k))∧Below w.heap.size w w':=by
 have hin:=h;obtain⟨a1,c1,a2,c2,a3,c3,a4,c4,a5,c5,a6,c6,rfl,-,hc,-,-,hkn⟩:=h.form;obtain⟨x,hx⟩:∃x,d.known[k]? =some x:=⟨_,List.getElem?_eq_getElem hk⟩;have hxd:d.known.getD k []=x:=by rw[List.getD_eq_getElem?_getD,hx];rfl
 obtain⟨b,off,a7,c7,rfl,hcell,hrow⟩:=hkn.at hx;have hlen:=hkn.len_le;have HB0:=Za (bpl w (.cells #[.int .i64 d.self,.slice a1 d.st.clock.length c1,.slice a2 d.st.lives.length c2,.slice a3 d.st.tals.length c3,.slice a4 d.base.length c4,.slice a5 d.log.length c5,.slice (some ⟨b,off,none⟩) d.known.length c6] 31));have G0:=Za (Box.new w [.int .i64 d.self,.slice a1 d.st.clock.length c1,.slice a2 d.st.lives.length c2,.slice a3 d.st.tals.length c3,.slice a4 d.base.length c4,.slice a5 d.log.length c5,.slice (some ⟨b,off,none⟩) d.known.length c6] 31);have D0:=Za (hin.below HB0.out (nlr _));have C0:=Za (hc.below HB0.out (nlr _));have X0:=Za (hrow.below HB0.out (nlr _));have hcell':=(HB0.cell (p:=⟨b,off+k,none⟩) (World.block_lt_of_cell? w _ hcell)).trans hcell;have hlt:(k:Int)<(d.known.length:Int):=by omega
 clear h hin hc hkn hrow hcell hx hk;unfold Qm;rw[hxd];obtain⟨E,HE⟩:∃E,Hid (Zn x d.st.clock.length=E):=⟨_,rfl⟩;rw[HE.out]
 by_cases h1:E=0
 ·rw[if_pos h1];have h1':(E != 0)=false:=by simp[h1]
  clear h1
  cases hse:Ju d.st.clock x
  ·rw[if_neg (by simp)];have HSE:=Za hse;clear hse
   go_enter Tryz.func31,Tryz.ntmps31
   obtain⟨cG0,cG1,cG2,cG3,cG4,cG5,cG6⟩:=G0.c7
   go_wp2_with fail
   refine(Yv _ d _ D0.out).mono ?_;rintro e w1 ⟨rfl,hb⟩;have HB1:=Za (Zb HB0.out hb);have G1:=Za (G0.below hb (nlr _));have D1:=Za (D0.below hb (nlr _));have C1:=Za (C0.below hb (nlr _));have X1:=Za (X0.below hb (nlr _));clear HB0 hb G0 D0 C0 X0
   go_wp2_with fail
   refine(Yk _ x d.st.clock.length _ X1.out).mono ?_;rintro e w' ⟨rfl,hw'⟩;rw[hw'];clear hw' w';rw[HE.out];obtain⟨cG0,cG1,cG2,cG3,cG4,cG5,cG6⟩:=G1.c7
   go_wp2_with fail
   refine(Jz _ _ d.st.clock x _ C1.out X1.out).mono ?_;rintro e w2 ⟨rfl,hb⟩;have HB2:=Za (Zb HB1.out hb);have G2:=Za (G1.below hb (nlr _));have D2:=Za (D1.below hb (nlr _));have C2:=Za (C1.below hb (nlr _));have X2:=Za (X1.below hb (nlr _));clear HB1 hb G1 D1 C1 X1;rw[HSE.out]
   go_wp2_with fail
   go_ret
   exact⟨rfl,HB2.out⟩
  rw[if_pos rfl];have HSE:=Za hse;clear hse
  by_cases hs:(k:Int)=d.self
  ·have hs':((k:Int)==d.self)=true:=by simp[hs]
   by_cases hq:x=d.st.clock
   ·rw[if_neg (by intro h;exact h.2 hq)];have HQ:=Za (decide_eq_true hq);clear hq hs
    go_enter Tryz.func31,Tryz.ntmps31
    obtain⟨cG0,cG1,cG2,cG3,cG4,cG5,cG6⟩:=G0.c7
    go_wp2_with fail
    refine(Yv _ d _ D0.out).mono ?_;rintro e w1 ⟨rfl,hb⟩;have HB1:=Za (Zb HB0.out hb);have G1:=Za (G0.below hb (nlr _));have D1:=Za (D0.below hb (nlr _));have C1:=Za (C0.below hb (nlr _));have X1:=Za (X0.below hb (nlr _));clear HB0 hb G0 D0 C0 X0
    go_wp2_with fail
    refine(Yk _ x d.st.clock.length _ X1.out).mono ?_;rintro e w' ⟨rfl,hw'⟩;rw[hw'];clear hw' w';rw[HE.out];obtain⟨cG0,cG1,cG2,cG3,cG4,cG5,cG6⟩:=G1.c7
    go_wp2_with fail
    refine(Jz _ _ d.st.clock x _ C1.out X1.out).mono ?_;rintro e w2 ⟨rfl,hb⟩;have HB2:=Za (Zb HB1.out hb);have G2:=Za (G1.below hb (nlr _));have D2:=Za (D1.below hb (nlr _));have C2:=Za (C1.below hb (nlr _));have X2:=Za (X1.below hb (nlr _));clear HB1 hb G1 D1 C1 X1;rw[HSE.out];obtain⟨cG0,cG1,cG2,cG3,cG4,cG5,cG6⟩:=G2.c7
    go_wp2_with fail
    refine(zS _ _ x d.st.clock _ X2.out C2.out).mono ?_;rintro e w3 ⟨rfl,hb⟩;have HB3:=Za (Zb HB2.out hb);have G3:=Za (G2.below hb (nlr _));have D3:=Za (D2.below hb (nlr _));have C3:=Za (C2.below hb (nlr _));have X3:=Za (X2.below hb (nlr _));clear HB2 hb G2 D2 C2 X2;rw[HQ.out]
    go_wp2_with fail
    go_ret
    exact⟨rfl,HB3.out⟩
   rw[if_pos ⟨hs,hq⟩];have HQ:=Za (decide_eq_false hq);clear hq hs
   go_enter Tryz.func31,Tryz.ntmps31
   obtain⟨cG0,cG1,cG2,cG3,cG4,cG5,cG6⟩:=G0.c7
   go_wp2_with fail
   refine(Yv _ d _ D0.out).mono ?_;rintro e w1 ⟨rfl,hb⟩;have HB1:=Za (Zb HB0.out hb);have G1:=Za (G0.below hb (nlr _));have D1:=Za (D0.below hb (nlr _));have C1:=Za (C0.below hb (nlr _));have X1:=Za (X0.below hb (nlr _));clear HB0 hb G0 D0 C0 X0
   go_wp2_with fail
   refine(Yk _ x d.st.clock.length _ X1.out).mono ?_;rintro e w' ⟨rfl,hw'⟩;rw[hw'];clear hw' w';rw[HE.out];obtain⟨cG0,cG1,cG2,cG3,cG4,cG5,cG6⟩:=G1.c7
   go_wp2_with fail
   refine(Jz _ _ d.st.clock x _ C1.out X1.out).mono ?_;rintro e w2 ⟨rfl,hb⟩;have HB2:=Za (Zb HB1.out hb);have G2:=Za (G1.below hb (nlr _));have D2:=Za (D1.below hb (nlr _));have C2:=Za (C1.below hb (nlr _));have X2:=Za (X1.below hb (nlr _));clear HB1 hb G1 D1 C1 X1;rw[HSE.out];obtain⟨cG0,cG1,cG2,cG3,cG4,cG5,cG6⟩:=G2.c7
   go_wp2_with fail
   refine(zS _ _ x d.st.clock _ X2.out C2.out).mono ?_;rintro e w3 ⟨rfl,hb⟩;have HB3:=Za (Zb HB2.out hb);have G3:=Za (G2.below hb (nlr _));have D3:=Za (D2.below hb (nlr _));have C3:=Za (C2.below hb (nlr _));have X3:=Za (X2.below hb (nlr _));clear HB2 hb G2 D2 C2 X2;rw[HQ.out]
   go_wp2_with fail
   go_ret
   exact⟨rfl,HB3.out⟩
  have hs':((k:Int)==d.self)=false:=by simp[hs]
  rw[if_neg (by intro h;exact hs h.1)];clear hs
  go_enter Tryz.func31,Tryz.ntmps31
  obtain⟨cG0,cG1,cG2,cG3,cG4,cG5,cG6⟩:=G0.c7
  go_wp2_with fail
  refine(Yv _ d _ D0.out).mono ?_;rintro e w1 ⟨rfl,hb⟩;have HB1:=Za (Zb HB0.out hb);have G1:=Za (G0.below hb (nlr _));have D1:=Za (D0.below hb (nlr _));have C1:=Za (C0.below hb (nlr _));have X1:=Za (X0.below hb (nlr _));clear HB0 hb G0 D0 C0 X0
  go_wp2_with fail
  refine(Yk _ x d.st.clock.length _ X1.out).mono ?_;rintro e w' ⟨rfl,hw'⟩;rw[hw'];clear hw' w';rw[HE.out];obtain⟨cG0,cG1,cG2,cG3,cG4,cG5,cG6⟩:=G1.c7
  go_wp2_with fail
  refine(Jz _ _ d.st.clock x _ C1.out X1.out).mono ?_;rintro e w2 ⟨rfl,hb⟩;have HB2:=Za (Zb HB1.out hb);have G2:=Za (G1.below hb (nlr _));have D2:=Za (D1.below hb (nlr _));have C2:=Za (C1.below hb (nlr _));have X2:=Za (X1.below hb (nlr _));clear HB1 hb G1 D1 C1 X1;rw[HSE.out];obtain⟨cG0,cG1,cG2,cG3,cG4,cG5,cG6⟩:=G2.c7
  go_wp2_with fail
  go_ret
  exact⟨rfl,HB2.out⟩
 rw[if_neg h1];have h1':(E != 0)=true:=by simp[h1]
 clear h1
 go_enter Tryz.func31,Tryz.ntmps31
 obtain⟨cG0,cG1,cG2,cG3,cG4,cG5,cG6⟩:=G0.c7
 go_wp2_with fail
 refine(Yv _ d _ D0.out).mono ?_;rintro e w1 ⟨rfl,hb⟩;have HB1:=Za (Zb HB0.out hb);have G1:=Za (G0.below hb (nlr _));have D1:=Za (D0.below hb (nlr _));have C1:=Za (C0.below hb (nlr _));have X1:=Za (X0.below hb (nlr _));clear HB0 hb G0 D0 C0 X0
 go_wp2_with fail
 refine(Yk _ x d.st.clock.length _ X1.out).mono ?_;rintro e w' ⟨rfl,hw'⟩;rw[hw'];clear hw' w';rw[HE.out]
 go_wp2_with fail
 go_ret
 exact⟨rfl,HB1.out⟩

set_option maxRecDepth 100000 in
set_option maxHeartbeats 4000000 in
theorem Qv(v:Value)(d:NdS)(w:World)(h:Vp w v d):
  Calls Tryz.prog 8 #[v] w fun e w'=>e=.returned (.int .i64 (Vi d))∧Below w.heap.size w w':=by
 have hin:=h;obtain⟨a1,c1,a2,c2,a3,c3,a4,c4,a5,c5,a6,c6,rfl,hs,hc,hb,hl,hkn⟩:=h.form;have hlen:=hkn.len_le;have hlenc:=hc.len_le;have HB0:=Za (bpl w (.cells #[.int .i64 d.self,.slice a1 d.st.clock.length c1,.slice a2 d.st.lives.length c2,.slice a3 d.st.tals.length c3,.slice a4 d.base.length c4,.slice a5 d.log.length c5,.slice a6 d.known.length c6] 31));have G0:=Za (Box.new w [.int .i64 d.self,.slice a1 d.st.clock.length c1,.slice a2 d.st.lives.length c2,.slice a3 d.st.tals.length c3,.slice a4 d.base.length c4,.slice a5 d.log.length c5,.slice a6 d.known.length c6] 31);have D0:=Za (hin.below HB0.out (nlr _));have S0:=Za (hs.below HB0.out (nlr _));have C0:=Za (hc.below HB0.out (nlr _));have B0:=Za (hb.below HB0.out (nlr _));have U0:=Za (hl.below HB0.out (nlr _));have K0:=Za (hkn.below HB0.out (nlr _));clear h hin hc hkn hs hb hl;obtain⟨E,HE⟩:∃E,Hid (Vi d=E):=⟨_,rfl⟩;rw[HE.out];unfold Vi at HE;obtain⟨E1,HE1⟩:∃E,Hid (stE d.st d.st.clock.length=E):=⟨_,rfl⟩;obtain⟨A1,HA1⟩:∃E,Hid (stA d.st d.st.clock.length=E):=⟨_,rfl⟩;obtain⟨E2,HE2⟩:∃E,Hid (Xb d.base d.log d.st.clock.length=E):=⟨_,rfl⟩;obtain⟨A2,HA2⟩:∃E,Hid (Vg d.base d.log d.st.clock.length=E):=⟨_,rfl⟩;obtain⟨X2,HX2⟩:∃E,Hid (Vf d.base d.log d.st.clock.length=E):=⟨_,rfl⟩;rw[HE1.out,HE2.out,HX2.out]at HE
 by_cases h1:E1=0
 ·have h1':(E1 != 0)=false:=by simp[h1]
  rw[if_pos h1]at HE;clear h1
  by_cases h2:0≤d.self∧d.self<d.st.clock.length
  ·rw[if_pos h2]at HE;have HI:=Za (decide_eq_true h2);clear h2
   by_cases h3:E2=0
   ·have h3':(E2 != 0)=false:=by simp[h3]
    rw[if_pos h3]at HE;clear h3
    by_cases h4:X2=d.st.clock
    ·have HQ:=Za (decide_eq_true h4)
     by_cases h5:d.known.length=d.st.clock.length
     ·have h5':((d.known.length:Int) != (d.st.clock.length:Int))=false:=by simp;omega
      rw[if_pos ⟨h4,h5⟩]at HE;clear h4 h5
      go_enter Tryz.func8,Tryz.ntmps8
      obtain⟨cG0,cG1,cG2,cG3,cG4,cG5,cG6⟩:=G0.c7
      go_wp2_with fail
      refine(Yv _ d _ D0.out).mono ?_;rintro e w1 ⟨rfl,hb⟩;have HB1:=Za (Zb HB0.out hb);have G1:=Za (G0.below hb (nlr _));have D1:=Za (D0.below hb (nlr _));have S1:=Za (S0.below hb (nlr _));have C1:=Za (C0.below hb (nlr _));have B1:=Za (B0.below hb (nlr _));have U1:=Za (U0.below hb (nlr _));have K1:=Za (K0.below hb (nlr _));clear HB0 hb G0 D0 S0 C0 B0 U0 K0;obtain⟨cG0,cG1,cG2,cG3,cG4,cG5,cG6⟩:=G1.c7
      go_wp2_with fail
      refine(Xg _ d.st d.st.clock.length _ S1.out).mono ?_;rintro e w2 ⟨rfl,hb⟩;have HB2:=Za (Zb HB1.out hb);have G2:=Za (G1.below hb (nlr _));have D2:=Za (D1.below hb (nlr _));have S2:=Za (S1.below hb (nlr _));have C2:=Za (C1.below hb (nlr _));have B2:=Za (B1.below hb (nlr _));have U2:=Za (U1.below hb (nlr _));have K2:=Za (K1.below hb (nlr _));clear HB1 hb G1 D1 S1 C1 B1 U1 K1;rw[HE1.out,HA1.out];have HB3:=Za (Zb HB2.out (bpl w2 (.cells #[.int .i64 E1,.int .i64 A1] 65)));have G3:=Za (G2.below (bpl w2 (.cells #[.int .i64 E1,.int .i64 A1] 65)) (nlr _));have D3:=Za (D2.below (bpl w2 (.cells #[.int .i64 E1,.int .i64 A1] 65)) (nlr _));have S3:=Za (S2.below (bpl w2 (.cells #[.int .i64 E1,.int .i64 A1] 65)) (nlr _));have C3:=Za (C2.below (bpl w2 (.cells #[.int .i64 E1,.int .i64 A1] 65)) (nlr _));have B3:=Za (B2.below (bpl w2 (.cells #[.int .i64 E1,.int .i64 A1] 65)) (nlr _));have U3:=Za (U2.below (bpl w2 (.cells #[.int .i64 E1,.int .i64 A1] 65)) (nlr _));have K3:=Za (K2.below (bpl w2 (.cells #[.int .i64 E1,.int .i64 A1] 65)) (nlr _));have V3:=Za (Box.new w2 [.int .i64 E1,.int .i64 A1] 65);clear HB2 G2 D2 S2 C2 B2 U2 K2;obtain⟨cV0,cV1⟩:=V3.c2;obtain⟨cG0,cG1,cG2,cG3,cG4,cG5,cG6⟩:=G3.c7
      go_wp2_with fail
      refine(Vu _ d d.self _ D3.out).mono ?_;rintro e w4 ⟨rfl,hb⟩;have HB4:=Za (Zb HB3.out hb);have G4:=Za (G3.below hb (nlr _));have D4:=Za (D3.below hb (nlr _));have S4:=Za (S3.below hb (nlr _));have C4:=Za (C3.below hb (nlr _));have B4:=Za (B3.below hb (nlr _));have U4:=Za (U3.below hb (nlr _));have K4:=Za (K3.below hb (nlr _));have V4:=Za (V3.below hb (nlr _));clear HB3 hb G3 D3 S3 C3 B3 U3 K3 V3;rw[HI.out];obtain⟨cG0,cG1,cG2,cG3,cG4,cG5,cG6⟩:=G4.c7
      go_wp2_with fail
      refine(zF _ _ d.base d.log d.st.clock.length _ B4.out U4.out).mono ?_;rintro e w5 ⟨vQ,rfl,ho,hb⟩;have HB5:=Za (Zb HB4.out hb);have G5:=Za (G4.below hb (nlr _));have D5:=Za (D4.below hb (nlr _));have S5:=Za (S4.below hb (nlr _));have C5:=Za (C4.below hb (nlr _));have B5:=Za (B4.below hb (nlr _));have U5:=Za (U4.below hb (nlr _));have K5:=Za (K4.below hb (nlr _));have V5:=Za (V4.below hb (nlr _));have Q5:=Za ho;clear HB4 hb G4 D4 S4 C4 B4 U4 K4 V4;clear ho;rw[HE2.out,HA2.out];rw[HX2.out]at Q5;have HB6:=Za (Zb HB5.out (bpl w5 (.cells #[.int .i64 E2,.int .i64 A2] 65)));have G6:=Za (G5.below (bpl w5 (.cells #[.int .i64 E2,.int .i64 A2] 65)) (nlr _));have D6:=Za (D5.below (bpl w5 (.cells #[.int .i64 E2,.int .i64 A2] 65)) (nlr _));have S6:=Za (S5.below (bpl w5 (.cells #[.int .i64 E2,.int .i64 A2] 65)) (nlr _));have C6:=Za (C5.below (bpl w5 (.cells #[.int .i64 E2,.int .i64 A2] 65)) (nlr _));have B6:=Za (B5.below (bpl w5 (.cells #[.int .i64 E2,.int .i64 A2] 65)) (nlr _));have U6:=Za (U5.below (bpl w5 (.cells #[.int .i64 E2,.int .i64 A2] 65)) (nlr _));have K6:=Za (K5.below (bpl w5 (.cells #[.int .i64 E2,.int .i64 A2] 65)) (nlr _));have V6:=Za (V5.below (bpl w5 (.cells #[.int .i64 E2,.int .i64 A2] 65)) (nlr _));have Q6:=Za (Q5.below (bpl w5 (.cells #[.int .i64 E2,.int .i64 A2] 65)) (nlr _));have Y6:=Za (Box.new w5 [.int .i64 E2,.int .i64 A2] 65);clear HB5 G5 D5 S5 C5 B5 U5 K5 V5 Q5;obtain⟨cY0,cY1⟩:=Y6.c2;obtain⟨cG0,cG1,cG2,cG3,cG4,cG5,cG6⟩:=G6.c7
      go_wp2_with fail
      refine(zS _ _ X2 d.st.clock _ Q6.row C6.out).mono ?_;rintro e w7 ⟨rfl,hb⟩;have HB7:=Za (Zb HB6.out hb);have G7:=Za (G6.below hb (nlr _));have D7:=Za (D6.below hb (nlr _));have S7:=Za (S6.below hb (nlr _));have C7:=Za (C6.below hb (nlr _));have B7:=Za (B6.below hb (nlr _));have U7:=Za (U6.below hb (nlr _));have K7:=Za (K6.below hb (nlr _));have V7:=Za (V6.below hb (nlr _));have Q7:=Za (Q6.below hb (nlr _));have Y7:=Za (Y6.below hb (nlr _));clear HB6 hb G6 D6 S6 C6 B6 U6 K6 V6 Q6 Y6;rw[HQ.out];obtain⟨cG0,cG1,cG2,cG3,cG4,cG5,cG6⟩:=G7.c7
      go_wp2_with fail
      have HE0:Hid (zR (Qm d) 0 (d.known.length - 0)=E):=HE
      go_loopw [55] (fun i wr=>∃k:Nat,k≤d.known.length∧i=.int .i64 k∧Hid (zR (Qm d) k (d.known.length - k)=E)∧Hid (Below w7.heap.size w7 wr)) (fun i _=>d.known.length - (intOf i).toNat)
      case atStart=>exact⟨0,Nat.zero_le _,rfl,HE0,Za (Below.refl _ _)⟩
      clear HE0 HE;obtain⟨k,hk,rfl,HEk,HB20⟩:=hrel;obtain⟨w20,rfl⟩:∃w20,w20=wr:=⟨wr,rfl⟩;have D20:=Za (D7.below HB20.out (nlr _));have G20:=Za (G7.below HB20.out (nlr _));have HB21:=Za (Zb HB7.out HB20.out)
      by_cases hlt:k<d.known.length
      ·have hlt':(k:Int)<(d.known.length:Int):=by omega
       obtain⟨F,HF⟩:∃F,Hid (Qm d k=F):=⟨_,rfl⟩
       have he:zR (Qm d) k (d.known.length - k)=if F=0 then zR (Qm d) (k+1) (d.known.length - (k+1))else F:=by
        obtain⟨m,hm⟩:∃m,d.known.length - k=m+1:=⟨d.known.length - k - 1,by omega⟩;rw[hm,zR,HF.out,show d.known.length - (k+1)=m by omega]
       rw[he]at HEk;obtain⟨g0,g1,g2,g3,g4,g5,g6⟩:=G20.c7;clear he
       by_cases hF:F=0
       ·have hF':(F != 0)=false:=by simp[hF]
        rw[if_pos hF]at HEk;clear hF
        go_wp2_with fail
        refine(knownWrong_node _ d k _ D20.out hlt).mono ?_;rintro e w22 ⟨rfl,hb22⟩;rw[HF.out];have HB22:=Za (Zb HB20.out hb22);clear hb22 g0 g1 g2 g3 g4 g5 g6
        go_wp2_with fail
        go_roundw
        case rel=>exact⟨k+1,by omega,by go_num,HEk,HB22⟩
        case measure=>simp[intOf];omega
       have hF':(F != 0)=true:=by simp[hF]
       rw[if_neg hF]at HEk;clear hF;have hE:=HEk.out;subst hE
       go_wp2_with fail
       refine(knownWrong_node _ d k _ D20.out hlt).mono ?_;rintro e w22 ⟨rfl,hb22⟩;rw[HF.out];have HB22:=Za (Zb HB21.out hb22);clear hb22 g0 g1 g2 g3 g4 g5 g6
       go_wp2_with fail
       go_ret
       exact⟨rfl,HB22.out⟩
      have hlt':¬(k:Int)<(d.known.length:Int):=by omega
      have hm:d.known.length - k=0:=by omega
      rw[hm]at HEk;have hE:0=E:=HEk.out;subst hE
      go_wp2_with fail
      go_ret
      exact⟨rfl,HB21.out⟩
     have h5':((d.known.length:Int) != (d.st.clock.length:Int))=true:=by simp;omega
     rw[if_neg (by intro h;exact h5 h.2)]at HE;clear h4 h5;have hE:=HE.out;subst hE
     go_enter Tryz.func8,Tryz.ntmps8
     obtain⟨cG0,cG1,cG2,cG3,cG4,cG5,cG6⟩:=G0.c7
     go_wp2_with fail
     refine(Yv _ d _ D0.out).mono ?_;rintro e w1 ⟨rfl,hb⟩;have HB1:=Za (Zb HB0.out hb);have G1:=Za (G0.below hb (nlr _));have D1:=Za (D0.below hb (nlr _));have S1:=Za (S0.below hb (nlr _));have C1:=Za (C0.below hb (nlr _));have B1:=Za (B0.below hb (nlr _));have U1:=Za (U0.below hb (nlr _));have K1:=Za (K0.below hb (nlr _));clear HB0 hb G0 D0 S0 C0 B0 U0 K0;obtain⟨cG0,cG1,cG2,cG3,cG4,cG5,cG6⟩:=G1.c7
     go_wp2_with fail
     refine(Xg _ d.st d.st.clock.length _ S1.out).mono ?_;rintro e w2 ⟨rfl,hb⟩;have HB2:=Za (Zb HB1.out hb);have G2:=Za (G1.below hb (nlr _));have D2:=Za (D1.below hb (nlr _));have S2:=Za (S1.below hb (nlr _));have C2:=Za (C1.below hb (nlr _));have B2:=Za (B1.below hb (nlr _));have U2:=Za (U1.below hb (nlr _));have K2:=Za (K1.below hb (nlr _));clear HB1 hb G1 D1 S1 C1 B1 U1 K1;rw[HE1.out,HA1.out];have HB3:=Za (Zb HB2.out (bpl w2 (.cells #[.int .i64 E1,.int .i64 A1] 65)));have G3:=Za (G2.below (bpl w2 (.cells #[.int .i64 E1,.int .i64 A1] 65)) (nlr _));have D3:=Za (D2.below (bpl w2 (.cells #[.int .i64 E1,.int .i64 A1] 65)) (nlr _));have S3:=Za (S2.below (bpl w2 (.cells #[.int .i64 E1,.int .i64 A1] 65)) (nlr _));have C3:=Za (C2.below (bpl w2 (.cells #[.int .i64 E1,.int .i64 A1] 65)) (nlr _));have B3:=Za (B2.below (bpl w2 (.cells #[.int .i64 E1,.int .i64 A1] 65)) (nlr _));have U3:=Za (U2.below (bpl w2 (.cells #[.int .i64 E1,.int .i64 A1] 65)) (nlr _));have K3:=Za (K2.below (bpl w2 (.cells #[.int .i64 E1,.int .i64 A1] 65)) (nlr _));have V3:=Za (Box.new w2 [.int .i64 E1,.int .i64 A1] 65);clear HB2 G2 D2 S2 C2 B2 U2 K2;obtain⟨cV0,cV1⟩:=V3.c2;obtain⟨cG0,cG1,cG2,cG3,cG4,cG5,cG6⟩:=G3.c7
     go_wp2_with fail
     refine(Vu _ d d.self _ D3.out).mono ?_;rintro e w4 ⟨rfl,hb⟩;have HB4:=Za (Zb HB3.out hb);have G4:=Za (G3.below hb (nlr _));have D4:=Za (D3.below hb (nlr _));have S4:=Za (S3.below hb (nlr _));have C4:=Za (C3.below hb (nlr _));have B4:=Za (B3.below hb (nlr _));have U4:=Za (U3.below hb (nlr _));have K4:=Za (K3.below hb (nlr _));have V4:=Za (V3.below hb (nlr _));clear HB3 hb G3 D3 S3 C3 B3 U3 K3 V3;rw[HI.out];obtain⟨cG0,cG1,cG2,cG3,cG4,cG5,cG6⟩:=G4.c7
     go_wp2_with fail
     refine(zF _ _ d.base d.log d.st.clock.length _ B4.out U4.out).mono ?_;rintro e w5 ⟨vQ,rfl,ho,hb⟩;have HB5:=Za (Zb HB4.out hb);have G5:=Za (G4.below hb (nlr _));have D5:=Za (D4.below hb (nlr _));have S5:=Za (S4.below hb (nlr _));have C5:=Za (C4.below hb (nlr _));have B5:=Za (B4.below hb (nlr _));have U5:=Za (U4.below hb (nlr _));have K5:=Za (K4.below hb (nlr _));have V5:=Za (V4.below hb (nlr _));have Q5:=Za ho;clear HB4 hb G4 D4 S4 C4 B4 U4 K4 V4;clear ho;rw[HE2.out,HA2.out];rw[HX2.out]at Q5;have HB6:=Za (Zb HB5.out (bpl w5 (.cells #[.int .i64 E2,.int .i64 A2] 65)));have G6:=Za (G5.below (bpl w5 (.cells #[.int .i64 E2,.int .i64 A2] 65)) (nlr _));have D6:=Za (D5.below (bpl w5 (.cells #[.int .i64 E2,.int .i64 A2] 65)) (nlr _));have S6:=Za (S5.below (bpl w5 (.cells #[.int .i64 E2,.int .i64 A2] 65)) (nlr _));have C6:=Za (C5.below (bpl w5 (.cells #[.int .i64 E2,.int .i64 A2] 65)) (nlr _));have B6:=Za (B5.below (bpl w5 (.cells #[.int .i64 E2,.int .i64 A2] 65)) (nlr _));have U6:=Za (U5.below (bpl w5 (.cells #[.int .i64 E2,.int .i64 A2] 65)) (nlr _));have K6:=Za (K5.below (bpl w5 (.cells #[.int .i64 E2,.int .i64 A2] 65)) (nlr _));have V6:=Za (V5.below (bpl w5 (.cells #[.int .i64 E2,.int .i64 A2] 65)) (nlr _));have Q6:=Za (Q5.below (bpl w5 (.cells #[.int .i64 E2,.int .i64 A2] 65)) (nlr _));have Y6:=Za (Box.new w5 [.int .i64 E2,.int .i64 A2] 65);clear HB5 G5 D5 S5 C5 B5 U5 K5 V5 Q5;obtain⟨cY0,cY1⟩:=Y6.c2;obtain⟨cG0,cG1,cG2,cG3,cG4,cG5,cG6⟩:=G6.c7
     go_wp2_with fail
     refine(zS _ _ X2 d.st.clock _ Q6.row C6.out).mono ?_;rintro e w7 ⟨rfl,hb⟩;have HB7:=Za (Zb HB6.out hb);have G7:=Za (G6.below hb (nlr _));have D7:=Za (D6.below hb (nlr _));have S7:=Za (S6.below hb (nlr _));have C7:=Za (C6.below hb (nlr _));have B7:=Za (B6.below hb (nlr _));have U7:=Za (U6.below hb (nlr _));have K7:=Za (K6.below hb (nlr _));have V7:=Za (V6.below hb (nlr _));have Q7:=Za (Q6.below hb (nlr _));have Y7:=Za (Y6.below hb (nlr _));clear HB6 hb G6 D6 S6 C6 B6 U6 K6 V6 Q6 Y6;rw[HQ.out];obtain⟨cG0,cG1,cG2,cG3,cG4,cG5,cG6⟩:=G7.c7
     go_wp2_with fail
     go_ret
     exact⟨rfl,HB7.out⟩

    have HQ:=Za (decide_eq_false h4);rw[if_neg (by intro h;exact h4 h.1)]at HE;clear h4;have hE:=HE.out;subst hE
    go_enter Tryz.func8,Tryz.ntmps8
    obtain⟨cG0,cG1,cG2,cG3,cG4,cG5,cG6⟩:=G0.c7
    go_wp2_with fail
    refine(Yv _ d _ D0.out).mono ?_;rintro e w1 ⟨rfl,hb⟩;have HB1:=Za (Zb HB0.out hb);have G1:=Za (G0.below hb (nlr _));have D1:=Za (D0.below hb (nlr _));have S1:=Za (S0.below hb (nlr _));have C1:=Za (C0.below hb (nlr _));have B1:=Za (B0.below hb (nlr _));have U1:=Za (U0.below hb (nlr _));have K1:=Za (K0.below hb (nlr _));clear HB0 hb G0 D0 S0 C0 B0 U0 K0;obtain⟨cG0,cG1,cG2,cG3,cG4,cG5,cG6⟩:=G1.c7
    go_wp2_with fail
    refine(Xg _ d.st d.st.clock.length _ S1.out).mono ?_;rintro e w2 ⟨rfl,hb⟩;have HB2:=Za (Zb HB1.out hb);have G2:=Za (G1.below hb (nlr _));have D2:=Za (D1.below hb (nlr _));have S2:=Za (S1.below hb (nlr _));have C2:=Za (C1.below hb (nlr _));have B2:=Za (B1.below hb (nlr _));have U2:=Za (U1.below hb (nlr _));have K2:=Za (K1.below hb (nlr _));clear HB1 hb G1 D1 S1 C1 B1 U1 K1;rw[HE1.out,HA1.out];have HB3:=Za (Zb HB2.out (bpl w2 (.cells #[.int .i64 E1,.int .i64 A1] 65)));have G3:=Za (G2.below (bpl w2 (.cells #[.int .i64 E1,.int .i64 A1] 65)) (nlr _));have D3:=Za (D2.below (bpl w2 (.cells #[.int .i64 E1,.int .i64 A1] 65)) (nlr _));have S3:=Za (S2.below (bpl w2 (.cells #[.int .i64 E1,.int .i64 A1] 65)) (nlr _));have C3:=Za (C2.below (bpl w2 (.cells #[.int .i64 E1,.int .i64 A1] 65)) (nlr _));have B3:=Za (B2.below (bpl w2 (.cells #[.int .i64 E1,.int .i64 A1] 65)) (nlr _));have U3:=Za (U2.below (bpl w2 (.cells #[.int .i64 E1,.int .i64 A1] 65)) (nlr _));have K3:=Za (K2.below (bpl w2 (.cells #[.int .i64 E1,.int .i64 A1] 65)) (nlr _));have V3:=Za (Box.new w2 [.int .i64 E1,.int .i64 A1] 65);clear HB2 G2 D2 S2 C2 B2 U2 K2;obtain⟨cV0,cV1⟩:=V3.c2;obtain⟨cG0,cG1,cG2,cG3,cG4,cG5,cG6⟩:=G3.c7
    go_wp2_with fail
    refine(Vu _ d d.self _ D3.out).mono ?_;rintro e w4 ⟨rfl,hb⟩;have HB4:=Za (Zb HB3.out hb);have G4:=Za (G3.below hb (nlr _));have D4:=Za (D3.below hb (nlr _));have S4:=Za (S3.below hb (nlr _));have C4:=Za (C3.below hb (nlr _));have B4:=Za (B3.below hb (nlr _));have U4:=Za (U3.below hb (nlr _));have K4:=Za (K3.below hb (nlr _));have V4:=Za (V3.below hb (nlr _));clear HB3 hb G3 D3 S3 C3 B3 U3 K3 V3;rw[HI.out];obtain⟨cG0,cG1,cG2,cG3,cG4,cG5,cG6⟩:=G4.c7
    go_wp2_with fail
    refine(zF _ _ d.base d.log d.st.clock.length _ B4.out U4.out).mono ?_;rintro e w5 ⟨vQ,rfl,ho,hb⟩;have HB5:=Za (Zb HB4.out hb);have G5:=Za (G4.below hb (nlr _));have D5:=Za (D4.below hb (nlr _));have S5:=Za (S4.below hb (nlr _));have C5:=Za (C4.below hb (nlr _));have B5:=Za (B4.below hb (nlr _));have U5:=Za (U4.below hb (nlr _));have K5:=Za (K4.below hb (nlr _));have V5:=Za (V4.below hb (nlr _));have Q5:=Za ho;clear HB4 hb G4 D4 S4 C4 B4 U4 K4 V4;clear ho;rw[HE2.out,HA2.out];rw[HX2.out]at Q5;have HB6:=Za (Zb HB5.out (bpl w5 (.cells #[.int .i64 E2,.int .i64 A2] 65)));have G6:=Za (G5.below (bpl w5 (.cells #[.int .i64 E2,.int .i64 A2] 65)) (nlr _));have D6:=Za (D5.below (bpl w5 (.cells #[.int .i64 E2,.int .i64 A2] 65)) (nlr _));have S6:=Za (S5.below (bpl w5 (.cells #[.int .i64 E2,.int .i64 A2] 65)) (nlr _));have C6:=Za (C5.below (bpl w5 (.cells #[.int .i64 E2,.int .i64 A2] 65)) (nlr _));have B6:=Za (B5.below (bpl w5 (.cells #[.int .i64 E2,.int .i64 A2] 65)) (nlr _));have U6:=Za (U5.below (bpl w5 (.cells #[.int .i64 E2,.int .i64 A2] 65)) (nlr _));have K6:=Za (K5.below (bpl w5 (.cells #[.int .i64 E2,.int .i64 A2] 65)) (nlr _));have V6:=Za (V5.below (bpl w5 (.cells #[.int .i64 E2,.int .i64 A2] 65)) (nlr _));have Q6:=Za (Q5.below (bpl w5 (.cells #[.int .i64 E2,.int .i64 A2] 65)) (nlr _));have Y6:=Za (Box.new w5 [.int .i64 E2,.int .i64 A2] 65);clear HB5 G5 D5 S5 C5 B5 U5 K5 V5 Q5;obtain⟨cY0,cY1⟩:=Y6.c2;obtain⟨cG0,cG1,cG2,cG3,cG4,cG5,cG6⟩:=G6.c7
    go_wp2_with fail
    refine(zS _ _ X2 d.st.clock _ Q6.row C6.out).mono ?_;rintro e w7 ⟨rfl,hb⟩;have HB7:=Za (Zb HB6.out hb);have G7:=Za (G6.below hb (nlr _));have D7:=Za (D6.below hb (nlr _));have S7:=Za (S6.below hb (nlr _));have C7:=Za (C6.below hb (nlr _));have B7:=Za (B6.below hb (nlr _));have U7:=Za (U6.below hb (nlr _));have K7:=Za (K6.below hb (nlr _));have V7:=Za (V6.below hb (nlr _));have Q7:=Za (Q6.below hb (nlr _));have Y7:=Za (Y6.below hb (nlr _));clear HB6 hb G6 D6 S6 C6 B6 U6 K6 V6 Q6 Y6;rw[HQ.out];obtain⟨cG0,cG1,cG2,cG3,cG4,cG5,cG6⟩:=G7.c7
    go_wp2_with fail
    go_ret
    exact⟨rfl,HB7.out⟩

   have h3':(E2 != 0)=true:=by simp[h3]
   rw[if_neg h3]at HE;clear h3;have hE:=HE.out;subst hE
   go_enter Tryz.func8,Tryz.ntmps8
   obtain⟨cG0,cG1,cG2,cG3,cG4,cG5,cG6⟩:=G0.c7
   go_wp2_with fail
   refine(Yv _ d _ D0.out).mono ?_;rintro e w1 ⟨rfl,hb⟩;have HB1:=Za (Zb HB0.out hb);have G1:=Za (G0.below hb (nlr _));have D1:=Za (D0.below hb (nlr _));have S1:=Za (S0.below hb (nlr _));have C1:=Za (C0.below hb (nlr _));have B1:=Za (B0.below hb (nlr _));have U1:=Za (U0.below hb (nlr _));have K1:=Za (K0.below hb (nlr _));clear HB0 hb G0 D0 S0 C0 B0 U0 K0;obtain⟨cG0,cG1,cG2,cG3,cG4,cG5,cG6⟩:=G1.c7
   go_wp2_with fail
   refine(Xg _ d.st d.st.clock.length _ S1.out).mono ?_;rintro e w2 ⟨rfl,hb⟩;have HB2:=Za (Zb HB1.out hb);have G2:=Za (G1.below hb (nlr _));have D2:=Za (D1.below hb (nlr _));have S2:=Za (S1.below hb (nlr _));have C2:=Za (C1.below hb (nlr _));have B2:=Za (B1.below hb (nlr _));have U2:=Za (U1.below hb (nlr _));have K2:=Za (K1.below hb (nlr _));clear HB1 hb G1 D1 S1 C1 B1 U1 K1;rw[HE1.out,HA1.out];have HB3:=Za (Zb HB2.out (bpl w2 (.cells #[.int .i64 E1,.int .i64 A1] 65)));have G3:=Za (G2.below (bpl w2 (.cells #[.int .i64 E1,.int .i64 A1] 65)) (nlr _));have D3:=Za (D2.below (bpl w2 (.cells #[.int .i64 E1,.int .i64 A1] 65)) (nlr _));have S3:=Za (S2.below (bpl w2 (.cells #[.int .i64 E1,.int .i64 A1] 65)) (nlr _));have C3:=Za (C2.below (bpl w2 (.cells #[.int .i64 E1,.int .i64 A1] 65)) (nlr _));have B3:=Za (B2.below (bpl w2 (.cells #[.int .i64 E1,.int .i64 A1] 65)) (nlr _));have U3:=Za (U2.below (bpl w2 (.cells #[.int .i64 E1,.int .i64 A1] 65)) (nlr _));have K3:=Za (K2.below (bpl w2 (.cells #[.int .i64 E1,.int .i64 A1] 65)) (nlr _));have V3:=Za (Box.new w2 [.int .i64 E1,.int .i64 A1] 65);clear HB2 G2 D2 S2 C2 B2 U2 K2;obtain⟨cV0,cV1⟩:=V3.c2;obtain⟨cG0,cG1,cG2,cG3,cG4,cG5,cG6⟩:=G3.c7
   go_wp2_with fail
   refine(Vu _ d d.self _ D3.out).mono ?_;rintro e w4 ⟨rfl,hb⟩;have HB4:=Za (Zb HB3.out hb);have G4:=Za (G3.below hb (nlr _));have D4:=Za (D3.below hb (nlr _));have S4:=Za (S3.below hb (nlr _));have C4:=Za (C3.below hb (nlr _));have B4:=Za (B3.below hb (nlr _));have U4:=Za (U3.below hb (nlr _));have K4:=Za (K3.below hb (nlr _));have V4:=Za (V3.below hb (nlr _));clear HB3 hb G3 D3 S3 C3 B3 U3 K3 V3;rw[HI.out];obtain⟨cG0,cG1,cG2,cG3,cG4,cG5,cG6⟩:=G4.c7
   go_wp2_with fail
   refine(zF _ _ d.base d.log d.st.clock.length _ B4.out U4.out).mono ?_;rintro e w5 ⟨vQ,rfl,ho,hb⟩;have HB5:=Za (Zb HB4.out hb);have G5:=Za (G4.below hb (nlr _));have D5:=Za (D4.below hb (nlr _));have S5:=Za (S4.below hb (nlr _));have C5:=Za (C4.below hb (nlr _));have B5:=Za (B4.below hb (nlr _));have U5:=Za (U4.below hb (nlr _));have K5:=Za (K4.below hb (nlr _));have V5:=Za (V4.below hb (nlr _));have Q5:=Za ho;clear HB4 hb G4 D4 S4 C4 B4 U4 K4 V4;clear ho;rw[HE2.out,HA2.out];rw[HX2.out]at Q5;have HB6:=Za (Zb HB5.out (bpl w5 (.cells #[.int .i64 E2,.int .i64 A2] 65)));have G6:=Za (G5.below (bpl w5 (.cells #[.int .i64 E2,.int .i64 A2] 65)) (nlr _));have D6:=Za (D5.below (bpl w5 (.cells #[.int .i64 E2,.int .i64 A2] 65)) (nlr _));have S6:=Za (S5.below (bpl w5 (.cells #[.int .i64 E2,.int .i64 A2] 65)) (nlr _));have C6:=Za (C5.below (bpl w5 (.cells #[.int .i64 E2,.int .i64 A2] 65)) (nlr _));have B6:=Za (B5.below (bpl w5 (.cells #[.int .i64 E2,.int .i64 A2] 65)) (nlr _));have U6:=Za (U5.below (bpl w5 (.cells #[.int .i64 E2,.int .i64 A2] 65)) (nlr _));have K6:=Za (K5.below (bpl w5 (.cells #[.int .i64 E2,.int .i64 A2] 65)) (nlr _));have V6:=Za (V5.below (bpl w5 (.cells #[.int .i64 E2,.int .i64 A2] 65)) (nlr _));have Q6:=Za (Q5.below (bpl w5 (.cells #[.int .i64 E2,.int .i64 A2] 65)) (nlr _));have Y6:=Za (Box.new w5 [.int .i64 E2,.int .i64 A2] 65);clear HB5 G5 D5 S5 C5 B5 U5 K5 V5 Q5;obtain⟨cY0,cY1⟩:=Y6.c2;obtain⟨cG0,cG1,cG2,cG3,cG4,cG5,cG6⟩:=G6.c7
   go_wp2_with fail
   go_ret
   exact⟨rfl,HB6.out⟩

  rw[if_neg h2]at HE;have HI:=Za (decide_eq_false h2);clear h2;have hE:=HE.out;subst hE
  go_enter Tryz.func8,Tryz.ntmps8
  obtain⟨cG0,cG1,cG2,cG3,cG4,cG5,cG6⟩:=G0.c7
  go_wp2_with fail
  refine(Yv _ d _ D0.out).mono ?_;rintro e w1 ⟨rfl,hb⟩;have HB1:=Za (Zb HB0.out hb);have G1:=Za (G0.below hb (nlr _));have D1:=Za (D0.below hb (nlr _));have S1:=Za (S0.below hb (nlr _));have C1:=Za (C0.below hb (nlr _));have B1:=Za (B0.below hb (nlr _));have U1:=Za (U0.below hb (nlr _));have K1:=Za (K0.below hb (nlr _));clear HB0 hb G0 D0 S0 C0 B0 U0 K0;obtain⟨cG0,cG1,cG2,cG3,cG4,cG5,cG6⟩:=G1.c7
  go_wp2_with fail
  refine(Xg _ d.st d.st.clock.length _ S1.out).mono ?_;rintro e w2 ⟨rfl,hb⟩;have HB2:=Za (Zb HB1.out hb);have G2:=Za (G1.below hb (nlr _));have D2:=Za (D1.below hb (nlr _));have S2:=Za (S1.below hb (nlr _));have C2:=Za (C1.below hb (nlr _));have B2:=Za (B1.below hb (nlr _));have U2:=Za (U1.below hb (nlr _));have K2:=Za (K1.below hb (nlr _));clear HB1 hb G1 D1 S1 C1 B1 U1 K1;rw[HE1.out,HA1.out];have HB3:=Za (Zb HB2.out (bpl w2 (.cells #[.int .i64 E1,.int .i64 A1] 65)));have G3:=Za (G2.below (bpl w2 (.cells #[.int .i64 E1,.int .i64 A1] 65)) (nlr _));have D3:=Za (D2.below (bpl w2 (.cells #[.int .i64 E1,.int .i64 A1] 65)) (nlr _));have S3:=Za (S2.below (bpl w2 (.cells #[.int .i64 E1,.int .i64 A1] 65)) (nlr _));have C3:=Za (C2.below (bpl w2 (.cells #[.int .i64 E1,.int .i64 A1] 65)) (nlr _));have B3:=Za (B2.below (bpl w2 (.cells #[.int .i64 E1,.int .i64 A1] 65)) (nlr _));have U3:=Za (U2.below (bpl w2 (.cells #[.int .i64 E1,.int .i64 A1] 65)) (nlr _));have K3:=Za (K2.below (bpl w2 (.cells #[.int .i64 E1,.int .i64 A1] 65)) (nlr _));have V3:=Za (Box.new w2 [.int .i64 E1,.int .i64 A1] 65);clear HB2 G2 D2 S2 C2 B2 U2 K2;obtain⟨cV0,cV1⟩:=V3.c2;obtain⟨cG0,cG1,cG2,cG3,cG4,cG5,cG6⟩:=G3.c7
  go_wp2_with fail
  refine(Vu _ d d.self _ D3.out).mono ?_;rintro e w4 ⟨rfl,hb⟩;have HB4:=Za (Zb HB3.out hb);have G4:=Za (G3.below hb (nlr _));have D4:=Za (D3.below hb (nlr _));have S4:=Za (S3.below hb (nlr _));have C4:=Za (C3.below hb (nlr _));have B4:=Za (B3.below hb (nlr _));have U4:=Za (U3.below hb (nlr _));have K4:=Za (K3.below hb (nlr _));have V4:=Za (V3.below hb (nlr _));clear HB3 hb G3 D3 S3 C3 B3 U3 K3 V3;rw[HI.out];obtain⟨cG0,cG1,cG2,cG3,cG4,cG5,cG6⟩:=G4.c7
  go_wp2_with fail
  go_ret
  exact⟨rfl,HB4.out⟩

 have h1':(E1 != 0)=true:=by simp[h1]
 rw[if_neg h1]at HE;clear h1;have hE:=HE.out;subst hE
 go_enter Tryz.func8,Tryz.ntmps8
 obtain⟨cG0,cG1,cG2,cG3,cG4,cG5,cG6⟩:=G0.c7
 go_wp2_with fail
 refine(Yv _ d _ D0.out).mono ?_;rintro e w1 ⟨rfl,hb⟩;have HB1:=Za (Zb HB0.out hb);have G1:=Za (G0.below hb (nlr _));have D1:=Za (D0.below hb (nlr _));have S1:=Za (S0.below hb (nlr _));have C1:=Za (C0.below hb (nlr _));have B1:=Za (B0.below hb (nlr _));have U1:=Za (U0.below hb (nlr _));have K1:=Za (K0.below hb (nlr _));clear HB0 hb G0 D0 S0 C0 B0 U0 K0;obtain⟨cG0,cG1,cG2,cG3,cG4,cG5,cG6⟩:=G1.c7
 go_wp2_with fail
 refine(Xg _ d.st d.st.clock.length _ S1.out).mono ?_;rintro e w2 ⟨rfl,hb⟩;have HB2:=Za (Zb HB1.out hb);have G2:=Za (G1.below hb (nlr _));have D2:=Za (D1.below hb (nlr _));have S2:=Za (S1.below hb (nlr _));have C2:=Za (C1.below hb (nlr _));have B2:=Za (B1.below hb (nlr _));have U2:=Za (U1.below hb (nlr _));have K2:=Za (K1.below hb (nlr _));clear HB1 hb G1 D1 S1 C1 B1 U1 K1;rw[HE1.out,HA1.out];have HB3:=Za (Zb HB2.out (bpl w2 (.cells #[.int .i64 E1,.int .i64 A1] 65)));have G3:=Za (G2.below (bpl w2 (.cells #[.int .i64 E1,.int .i64 A1] 65)) (nlr _));have D3:=Za (D2.below (bpl w2 (.cells #[.int .i64 E1,.int .i64 A1] 65)) (nlr _));have S3:=Za (S2.below (bpl w2 (.cells #[.int .i64 E1,.int .i64 A1] 65)) (nlr _));have C3:=Za (C2.below (bpl w2 (.cells #[.int .i64 E1,.int .i64 A1] 65)) (nlr _));have B3:=Za (B2.below (bpl w2 (.cells #[.int .i64 E1,.int .i64 A1] 65)) (nlr _));have U3:=Za (U2.below (bpl w2 (.cells #[.int .i64 E1,.int .i64 A1] 65)) (nlr _));have K3:=Za (K2.below (bpl w2 (.cells #[.int .i64 E1,.int .i64 A1] 65)) (nlr _));have V3:=Za (Box.new w2 [.int .i64 E1,.int .i64 A1] 65);clear HB2 G2 D2 S2 C2 B2 U2 K2;obtain⟨cV0,cV1⟩:=V3.c2;obtain⟨cG0,cG1,cG2,cG3,cG4,cG5,cG6⟩:=G3.c7
 go_wp2_with fail
 go_ret
 exact⟨rfl,HB3.out⟩

set_option maxRecDepth 100000 in
set_option maxHeartbeats 2000000 in
theorem otherWrong_node(v:Value)(d:NdS)(i:Int)(w:World)(h:Vp w v d):
  Calls Tryz.prog 41 #[v,.int .i64 i] w fun e w'=>e=.returned (.int .i64 (Jj d i))∧Below w.heap.size w w':=by
 have hin:=h;obtain⟨a1,c1,a2,c2,a3,c3,a4,c4,a5,c5,a6,c6,rfl,-,-,-,-,-⟩:=h.form;have HB0:=Za (bpl w (.cells #[.int .i64 d.self,.slice a1 d.st.clock.length c1,.slice a2 d.st.lives.length c2,.slice a3 d.st.tals.length c3,.slice a4 d.base.length c4,.slice a5 d.log.length c5,.slice a6 d.known.length c6] 31));have G0:=Za (Box.new w [.int .i64 d.self,.slice a1 d.st.clock.length c1,.slice a2 d.st.lives.length c2,.slice a3 d.st.tals.length c3,.slice a4 d.base.length c4,.slice a5 d.log.length c5,.slice a6 d.known.length c6] 31);have D0:=Za (hin.below HB0.out (nlr _));clear h hin;unfold Jj;obtain⟨E,HE⟩:∃E,Hid (Vi d=E):=⟨_,rfl⟩;rw[HE.out]
 by_cases h1:E=0
 ·have h1':(E != 0)=false:=by simp[h1]
  rw[if_pos h1];clear h1
  by_cases h2:0≤i∧i<d.st.clock.length
  ·rw[if_pos h2];have HI:=Za (decide_eq_true h2);clear h2
   by_cases h3:i=d.self
   ·have h3':(i==d.self)=true:=by simp[h3]
    rw[if_pos h3];clear h3
    go_enter Tryz.func41,Tryz.ntmps41
    obtain⟨cG0,cG1,cG2,cG3,cG4,cG5,cG6⟩:=G0.c7
    go_wp2_with fail
    refine(Qv _ d _ D0.out).mono ?_;rintro e w1 ⟨rfl,hb⟩;have HB1:=Za (Zb HB0.out hb);have G1:=Za (G0.below hb (nlr _));have D1:=Za (D0.below hb (nlr _));clear HB0 hb G0 D0;rw[HE.out];obtain⟨cG0,cG1,cG2,cG3,cG4,cG5,cG6⟩:=G1.c7
    go_wp2_with fail
    refine(Vu _ d i _ D1.out).mono ?_;rintro e w2 ⟨rfl,hb⟩;have HB2:=Za (Zb HB1.out hb);have G2:=Za (G1.below hb (nlr _));have D2:=Za (D1.below hb (nlr _));clear HB1 hb G1 D1;rw[HI.out];obtain⟨cG0,cG1,cG2,cG3,cG4,cG5,cG6⟩:=G2.c7
    go_wp2_with fail
    go_ret
    exact⟨rfl,HB2.out⟩
   have h3':(i==d.self)=false:=by simp[h3]
   rw[if_neg h3];clear h3
   go_enter Tryz.func41,Tryz.ntmps41
   obtain⟨cG0,cG1,cG2,cG3,cG4,cG5,cG6⟩:=G0.c7
   go_wp2_with fail
   refine(Qv _ d _ D0.out).mono ?_;rintro e w1 ⟨rfl,hb⟩;have HB1:=Za (Zb HB0.out hb);have G1:=Za (G0.below hb (nlr _));have D1:=Za (D0.below hb (nlr _));clear HB0 hb G0 D0;rw[HE.out];obtain⟨cG0,cG1,cG2,cG3,cG4,cG5,cG6⟩:=G1.c7
   go_wp2_with fail
   refine(Vu _ d i _ D1.out).mono ?_;rintro e w2 ⟨rfl,hb⟩;have HB2:=Za (Zb HB1.out hb);have G2:=Za (G1.below hb (nlr _));have D2:=Za (D1.below hb (nlr _));clear HB1 hb G1 D1;rw[HI.out];obtain⟨cG0,cG1,cG2,cG3,cG4,cG5,cG6⟩:=G2.c7
   go_wp2_with fail
   go_ret
   exact⟨rfl,HB2.out⟩
  rw[if_neg h2];have HI:=Za (decide_eq_false h2);clear h2
  go_enter Tryz.func41,Tryz.ntmps41
  obtain⟨cG0,cG1,cG2,cG3,cG4,cG5,cG6⟩:=G0.c7
  go_wp2_with fail
  refine(Qv _ d _ D0.out).mono ?_;rintro e w1 ⟨rfl,hb⟩;have HB1:=Za (Zb HB0.out hb);have G1:=Za (G0.below hb (nlr _));have D1:=Za (D0.below hb (nlr _));clear HB0 hb G0 D0;rw[HE.out];obtain⟨cG0,cG1,cG2,cG3,cG4,cG5,cG6⟩:=G1.c7
  go_wp2_with fail
  refine(Vu _ d i _ D1.out).mono ?_;rintro e w2 ⟨rfl,hb⟩;have HB2:=Za (Zb HB1.out hb);have G2:=Za (G1.below hb (nlr _));have D2:=Za (D1.below hb (nlr _));clear HB1 hb G1 D1;rw[HI.out]
  go_wp2_with fail
  go_ret
  exact⟨rfl,HB2.out⟩
 have h1':(E != 0)=true:=by simp[h1]
 rw[if_neg h1];clear h1
 go_enter Tryz.func41,Tryz.ntmps41
 obtain⟨cG0,cG1,cG2,cG3,cG4,cG5,cG6⟩:=G0.c7
 go_wp2_with fail
 refine(Qv _ d _ D0.out).mono ?_;rintro e w1 ⟨rfl,hb⟩;have HB1:=Za (Zb HB0.out hb);have G1:=Za (G0.below hb (nlr _));have D1:=Za (D0.below hb (nlr _));clear HB0 hb G0 D0;rw[HE.out]
 go_wp2_with fail
 go_ret
 exact⟨rfl,HB1.out⟩
end Go.Proofs.YtfhecilhcofboaaGreat
