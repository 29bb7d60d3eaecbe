/- node.Start. -/
import Derived.Test.YtfhecilhcofboaaGreatNdX
import Derived.Test.YtfhecilhcofboaaGreatNdPure
import Derived.Test.YtfhecilhcofboaaGreatNrA
namespace Go.Proofs.YtfhecilhcofboaaGreat
open Go.RowKit

theorem Box.seven{w:World}{g:Nat}{x0 x1 x2 x3 x4 x5 x6:Value}{t:TypeId}(h:Box w g [x0,x1,x2,x3,x4,x5,x6] t):
  w.cell? ⟨g,0,none⟩=some x0∧w.frozen? ⟨g,0,none⟩=false∧w.cell? ⟨g,1,none⟩=some x1∧w.frozen? ⟨g,1,none⟩=false∧w.cell? ⟨g,2,none⟩=some x2∧w.frozen? ⟨g,2,none⟩=false∧w.cell? ⟨g,3,none⟩=some x3∧w.frozen? ⟨g,3,none⟩=false∧w.cell? ⟨g,4,none⟩=some x4∧w.frozen? ⟨g,4,none⟩=false∧w.cell? ⟨g,5,none⟩=some x5∧w.frozen? ⟨g,5,none⟩=false∧w.cell? ⟨g,6,none⟩=some x6∧w.frozen? ⟨g,6,none⟩=false:=
 ⟨h.get 0 rfl,h.free 0,h.get 1 rfl,h.free 1,h.get 2 rfl,h.free 2,h.get 3 rfl,h.free 3,h.get 4 rfl,h.free 4,h.get 5 rfl,h.free 5,h.get 6 rfl,h.free 6⟩
theorem Below.set7b{n g:Nat}{w W:World}{v0 v1 v2 v3 v4 v5 v6:Value}(h:Below n w W)(hg:n≤g):Below n w (((((((W.setCell ⟨g,0,none⟩ v0).setCell ⟨g,1,none⟩ v1).setCell ⟨g,2,none⟩ v2).setCell ⟨g,3,none⟩ v3).setCell ⟨g,4,none⟩ v4).setCell ⟨g,5,none⟩ v5).setCell ⟨g,6,none⟩ v6):=
 (Below.setCell (Below.setCell (Below.setCell (Below.setCell (Below.setCell (Below.setCell (Below.setCell h (p:=⟨g,0,none⟩) hg v0) (p:=⟨g,1,none⟩) hg v1) (p:=⟨g,2,none⟩) hg v2) (p:=⟨g,3,none⟩) hg v3) (p:=⟨g,4,none⟩) hg v4) (p:=⟨g,5,none⟩) hg v5) (p:=⟨g,6,none⟩) hg v6)
theorem kn_made(w:World)(B:Nat){k:Nat}(hk:k≤6)(hB:B≤w.heap.size):Uf (w.alloc (.cells (madeCells #[.slice none 0 0] k) 23)) B (.slice (some ⟨w.heap.size,0,none⟩) k k) (List.replicate k []):=by
 have hb:Box (w.alloc (.cells (madeCells #[.slice none 0 0] k) 23)) w.heap.size (List.replicate k (.slice none 0 0)) 23:=by
  rw[xS k hk];exact Box.new w _ _
 refine⟨List.replicate k ([],.slice none 0 0),⟨?_,fun q hq=>?_⟩,by simp⟩
 ·have h:=ownsRow_blockK hb hB (n:=k) (by simp) (by unfold maxLen;omega)
  simpa using h
 rw[List.eq_of_mem_replicate hq];exact Jm _ _
theorem set_rep{α:Type}{a b:α}{m k:Nat}(h:m<k):(List.replicate m a++List.replicate (k - m) b).set m a=List.replicate (m+1) a++List.replicate (k - (m+1)) b:=by
 obtain⟨r,hr⟩:∃r,k - m=r+1:=⟨k - m - 1,by omega⟩;rw[hr,show k - (m+1)=r by omega,List.set_append_right _ _ (by simp),List.replicate_succ (n:=r),List.replicate_succ' (n:=m)]
 simp
theorem NdV.fill{w:World}{B g:Nat}{i:Int}{x0 x1 x2 x3 x4 x5 x6 c l t b u kk:Value}{s:StS}{xs:List Int}{lg:List Upd}{ks:List (List Int)}(hb:Box w g [x0,x1,x2,x3,x4,x5,x6] 31)(hg:B≤g)(hs:Yl w B (.agg #[c,l,t]) s)(h2:Own w B b xs)(h3:Xx w B u lg)(h4:Uf w B kk ks):
  NdV (((((((w.setCell ⟨g,0,none⟩ (.int .i64 i)).setCell ⟨g,1,none⟩ (c)).setCell ⟨g,2,none⟩ (l)).setCell ⟨g,3,none⟩ (t)).setCell ⟨g,4,none⟩ (b)).setCell ⟨g,5,none⟩ (u)).setCell ⟨g,6,none⟩ (kk)) B g ⟨i,s,xs,lg,ks⟩:=by
 have kb_0:=hb.set 0 (.int .i64 i);have ks_0:=hs.setT hb (by decide) (by decide) (by decide) 0 (.int .i64 i);have k2_0:=h2.setT hb (by decide) 0 (.int .i64 i);have k3_0:=h3.setT hb (by decide) (by decide) 0 (.int .i64 i);have k4_0:=h4.setT hb (by decide) (by decide) 0 (.int .i64 i);have kb_1:=kb_0.set 1 (c);have ks_1:=ks_0.setT kb_0 (by decide) (by decide) (by decide) 1 (c);have k2_1:=k2_0.setT kb_0 (by decide) 1 (c);have k3_1:=k3_0.setT kb_0 (by decide) (by decide) 1 (c);have k4_1:=k4_0.setT kb_0 (by decide) (by decide) 1 (c);have kb_2:=kb_1.set 2 (l);have ks_2:=ks_1.setT kb_1 (by decide) (by decide) (by decide) 2 (l);have k2_2:=k2_1.setT kb_1 (by decide) 2 (l);have k3_2:=k3_1.setT kb_1 (by decide) (by decide) 2 (l);have k4_2:=k4_1.setT kb_1 (by decide) (by decide) 2 (l);have kb_3:=kb_2.set 3 (t);have ks_3:=ks_2.setT kb_2 (by decide) (by decide) (by decide) 3 (t);have k2_3:=k2_2.setT kb_2 (by decide) 3 (t);have k3_3:=k3_2.setT kb_2 (by decide) (by decide) 3 (t);have k4_3:=k4_2.setT kb_2 (by decide) (by decide) 3 (t);have kb_4:=kb_3.set 4 (b);have ks_4:=ks_3.setT kb_3 (by decide) (by decide) (by decide) 4 (b);have k2_4:=k2_3.setT kb_3 (by decide) 4 (b);have k3_4:=k3_3.setT kb_3 (by decide) (by decide) 4 (b);have k4_4:=k4_3.setT kb_3 (by decide) (by decide) 4 (b);have kb_5:=kb_4.set 5 (u);have ks_5:=ks_4.setT kb_4 (by decide) (by decide) (by decide) 5 (u);have k2_5:=k2_4.setT kb_4 (by decide) 5 (u);have k3_5:=k3_4.setT kb_4 (by decide) (by decide) 5 (u);have k4_5:=k4_4.setT kb_4 (by decide) (by decide) 5 (u);have kb_6:=kb_5.set 6 (kk);have ks_6:=ks_5.setT kb_5 (by decide) (by decide) (by decide) 6 (kk);have k2_6:=k2_5.setT kb_5 (by decide) 6 (kk);have k3_6:=k3_5.setT kb_5 (by decide) (by decide) 6 (kk);have k4_6:=k4_5.setT kb_5 (by decide) (by decide) 6 (kk);exact⟨_,_,_,_,_,_,kb_6,hg,ks_6,k2_6,k3_6,k4_6⟩

set_option maxRecDepth 100000 in
set_option maxHeartbeats 8000000 in
theorem start_node(i n:Int)(w:World):
  Calls Tryz.prog 5 #[.int .i64 i,.int .i64 n] w fun e w'=>∃rv,e=.returned (.tuple #[rv,.int .i64 (zH i n)])∧Yo w' (w.heap.size+1) rv (Uu i n)∧Below w.heap.size w w':=by
 have hb1:=bpl w (.cells #[.int .i64 0,.slice none 0 0,.slice none 0 0,.slice none 0 0,.slice none 0 0,.slice none 0 0,.slice none 0 0] 31);have R0:=Za (Box.new w [.int .i64 0,.slice none 0 0,.slice none 0 0,.slice none 0 0,.slice none 0 0,.slice none 0 0,.slice none 0 0] 31);have HB0:=Za hb1;clear hb1;obtain⟨W1,HW1⟩:∃W1,Hid (w.alloc (.cells #[.int .i64 0,.slice none 0 0,.slice none 0 0,.slice none 0 0,.slice none 0 0,.slice none 0 0,.slice none 0 0] 31)=W1):=⟨_,rfl⟩;have hsz:Hid (W1.heap.size=w.heap.size+1):=by unfold Hid;rw[←HW1.out,World.size_alloc]
 rw[HW1.out]at R0 HB0;obtain⟨E,HE⟩:∃E,Hid (zH i n=E):=⟨_,rfl⟩;obtain⟨X,HX⟩:∃X,Hid (Uu i n=X):=⟨_,rfl⟩;have HXB:Hid (¬E=0→X=Yu):=fun hne=>by rw[←HX.out];unfold Uu;rw[if_neg (by rw[HE.out];exact hne)]
 rw[HE.out,HX.out]
 by_cases hn1:1≤n
 ·by_cases hn6:n≤6
  ·obtain⟨k,hk⟩:∃k:Nat,n=k:=⟨n.toNat,by omega⟩;subst hk;have hk6:k≤6:=by omega
   have hk1:1≤k:=by omega
   have hc1:¬((k:Int)<1):=by omega
   have hc6:¬((k:Int) > 6):=by omega
   have hc6':¬(6<(k:Int)):=by omega
   have hmk:=fun w:World=>run_make_clock hk6 w;have hmn:=fun w:World=>run_make_known hk6 w;obtain⟨cs,HCS⟩:∃cs,Hid (madeCells #[.int .i64 0] k=cs):=⟨_,rfl⟩;obtain⟨ns,HNS⟩:∃ns,Hid (madeCells #[.slice none 0 0] k=ns):=⟨_,rfl⟩;rw[HCS.out]at hmk;rw[HNS.out]at hmn;have hoz:=Za (fun(w:World) (hB:W1.heap.size≤w.heap.size)=>own_zero w W1.heap.size hk6 hB);have hkz:=Za (fun(w:World) (hB:W1.heap.size≤w.heap.size)=>kn_made w W1.heap.size hk6 hB);rw[HCS.out]at hoz;rw[HNS.out]at hkz;obtain⟨S,HS⟩:∃S,Hid ((⟨zeroC k,[],[]⟩:StS)=S):=⟨_,rfl⟩;have hst:=Za (fun w:World=>start_any hk6 w);rw[HS.out]at hst;have HE1:Hid ((if 0≤i∧i<(k:Int)then 0 else 3)=E):=by unfold Hid;rw[←HE.out];unfold zH;exact(if_pos (⟨hn1,hn6⟩:(1:Int)≤(k:Int)∧(k:Int)≤6)).symm
   clear hn1 hn6
   go_enter Tryz.func5,Tryz.ntmps5
   go_upto_region 1 with fail
   rw[HW1.out]
   go_upto_region 3 with fail
   go_cut [6] (fun c wx=>∃gd,c=.pointer (some ⟨gd,0,none⟩)∧Hid (NdV wx W1.heap.size gd ⟨i,S,zeroC k,[],List.replicate k []⟩)∧Hid (Zh W1 wx))
   case first=>
    refine bD (fun _=>false) (fun _=>True) (Zi _) (fun _ _=>trivial) fun W hg _=>?_;refine yD 0 (.int .i64 i) ?_;refine yD 1 (.int .i64 (k:Int)) ?_;refine yD 3 (.int .i64 (k:Int)) ?_;refine yD 5 (.int .i64 (k:Int)) ?_
    repeat'
     first
     |refine eD ?_ (by decide+kernel)
     |refine yT 7 (.agg #[.int .i64 i,.slice x1 S.clock.length y1,.slice x2 S.lives.length y2,.slice x3 S.tals.length y3,.slice (some ⟨g4,0,none⟩) k k,.slice none 0 0,.slice (some ⟨g6,0,none⟩) k k]) ?_ (hs:=by decide+kernel)
     |refine aR (cR 2 ?_ (cR 4 ?_ (cR 6 ?_ (cR 8 ?_ (cR 9 ?_ nR)))))
     |exact fun _ h=>absurd h (by decide+kernel)
     | (refine fun(_:Tg 2) _ K hK=>?_
        go_simp;refine(hst.out _).mono ?_;have zz:=hg.size;rintro e W ⟨rv,rfl,ho,hb⟩;obtain⟨x1,y1,x2,y2,x3,y3,rfl⟩:=ho.formW;have q2:=ho.base (C:=W1.heap.size) zz
        try have q4:=q4.below hb (nlr _)
        try have q6:=q6.below hb (nlr _)
        try have x8:=x8.below hb (nlr _)
        have hg:=Zd hg hb
        refine kS hK trivial ?_)
     | (refine fun(_:Tg 4) _ K hK=>?_
        go_simp;have q4:=hoz.out W hg.size;have hb:=bpl W (.cells cs 3);obtain⟨g4,hg4⟩:∃g,Hid (W.heap.size=g):=⟨_,rfl⟩;obtain⟨W,HW⟩:∃wn,Hid (W.alloc (.cells cs 3)=wn):=⟨_,rfl⟩;rw[HW.out]at q4 hb ⊢;rw[hg4.out]at q4 ⊢
        try have q2:=q2.below hb (nlr _)
        try have q6:=q6.below hb (nlr _)
        try have x8:=x8.below hb (nlr _)
        have hg:=Zd hg hb
        refine kS hK trivial ?_)
     | (refine fun(_:Tg 6) _ K hK=>?_
        go_simp;have q6:=hkz.out W hg.size;have hb:=bpl W (.cells ns 23);obtain⟨g6,hg6⟩:∃g,Hid (W.heap.size=g):=⟨_,rfl⟩;obtain⟨W,HW⟩:∃wn,Hid (W.alloc (.cells ns 23)=wn):=⟨_,rfl⟩;rw[HW.out]at q6 hb ⊢;rw[hg6.out]at q6 ⊢
        try have q2:=q2.below hb (nlr _)
        try have q4:=q4.below hb (nlr _)
        try have x8:=x8.below hb (nlr _)
        have hg:=Zd hg hb
        refine kS hK trivial ?_)
     | (refine fun(_:Tg 8) _ K hK=>?_
        go_simp;have hge:=hg.size;obtain⟨g8,hg8⟩:∃g,Hid (W.heap.size=g):=⟨_,rfl⟩;rw[hg8.out]at hge;obtain⟨W,HW,x8,hb,-⟩:=xW W [.int .i64 0,.slice none 0 0,.slice none 0 0,.slice none 0 0,.slice none 0 0,.slice none 0 0,.slice none 0 0] 31;rw[HW.out,hg8.out];have x8:=x8.out;have hb:=hb.out;rw[hg8.out]at x8
        try have q2:=q2.below hb (nlr _)
        try have q4:=q4.below hb (nlr _)
        try have q6:=q6.below hb (nlr _)
        have hg:=Zd hg hb
        refine kS hK trivial ?_)
     | (refine fun(_:Tg 9) _ K hK=>?_
        obtain⟨c0,f0,c1,f1,c2,f2,c3,f3,c4,f4,c5,f5,c6,f6⟩:=x8.seven;go_simp
        refine kS hK trivial ?_)
    all_goals
     have hN:=NdV.fill (i:=i) x8 hge q2 q4 (Xx.nil _ _) q6
     go_wp2_with fail
     go_meet
     exact⟨_,rfl,hN,Below.set7b hg hge⟩
   obtain⟨gd,rfl,HN2,HGR⟩:=hcut;obtain⟨w2,rfl⟩:∃w2,w2=wc:=⟨wc,rfl⟩;have R2:=Za (R0.below HGR.out (nlr _));have HB2:=Za (Zb HB0.out HGR.out);have hs2:Hid (w.heap.size+1≤w2.heap.size):=by have:=HGR.size;have:=hsz.out;unfold Hid;omega
   obtain⟨x1,y1,x2,y2,x3,y3,x4,y4,x5,y5,x6,y6,hbx,-⟩:=HN2.form;have HNO:=Za (HN2.value hbx).node;obtain⟨g0,g1,g2,g3,g4,g5,g6⟩:=hbx.c7;obtain⟨d0,HD0⟩:∃d0,Hid ((⟨i,S,zeroC k,[],List.replicate k []⟩:NdS)=d0):=⟨_,rfl⟩;have hcl:d0.st.clock.length=k:=by rw[←HD0.out,←HS.out];simp[zeroC]
   have hdS:d0.self=i:=by rw[←HD0.out]
   have hdK:d0.known=List.replicate k []:=by rw[←HD0.out]
   have hdX:Hid (d0.st=S∧d0.base=zeroC k∧d0.log=[]):=by unfold Hid;rw[←HD0.out];exact⟨rfl,rfl,rfl⟩
   rw[HD0.out]at HN2 HNO g0 g1 g2 g3 g4 g5 g6;have HDK:=Za hdK;have HCL:=Za hcl;have HDS:=Za hdS;clear hbx R0 HB0 HGR hcl hdK hdS
   go_wp2_with fail
   refine(Vu _ d0 i _ HNO.out).mono ?_;rintro e w3 ⟨rfl,hb3⟩;rw[HCL.out];have HN3:=Za (HN2.below hb3 (nlr _));have R3:=Za (R2.below hb3 (nlr _));have HB3:=Za (Zb HB2.out hb3);have hs3:Hid (w.heap.size+1≤w3.heap.size):=by have:=hb3.size;have:=hs2.out;unfold Hid;omega
   clear g0 g1 g2 g3 g4 g5 g6 hb3 HN2 R2 HB2 HNO
   by_cases hi:0≤i∧i<(k:Int)
   ·have hdi:decide (0≤i∧i<(k:Int))=true:=decide_eq_true hi;have hE:=HE1.out;rw[if_pos hi]at hE;subst hE
    have HXX:Hid ((⟨i,S,zeroC k,[],List.replicate k (zeroC k)⟩:NdS)=X):=by
     unfold Hid;rw[←HX.out,←HS.out];unfold Uu;rw[if_pos HE.out];rfl
    rw[hdi];obtain⟨x1,y1,x2,y2,x3,y3,x4,y4,x5,y5,x6,y6,hbx,-,-,-,-,hkn⟩:=HN3.form;have hkl:d0.known.length=k:=by rw[HDK.out,List.length_replicate]
    have g6:=hbx.get 6 rfl;rw[hkl]at g6;clear hi hdi HXB HE1 hbx hkn
    go_wp2_with fail
    go_loopw [31] (fun q wr=>∃(m:Nat),m≤k∧q=.int .i64 m∧Hid (NdV wr W1.heap.size gd ⟨i,S,zeroC k,[],List.replicate m (zeroC k)++List.replicate (k - m) []⟩)∧Hid (Below W1.heap.size w3 wr)) (fun q _=>k - (intOf q).toNat)
    case atStart=>
     refine⟨0,Nat.zero_le _,rfl,?_,Za (Below.refl _ _)⟩;rw[←HD0.out]at HN3;exact HN3
    obtain⟨m,hm,rfl,HNm,HBm⟩:=hrel;obtain⟨w4,rfl⟩:∃w4,w4=wr:=⟨wr,rfl⟩;have HBw:Hid (Below w.heap.size w w4):=HB3.trans (HBm.mono (by have:=hsz.out;omega));have R4:=Za (R3.low HBm.out (by have:=hsz.out;omega));clear g6;obtain⟨dm,HDM⟩:∃dm,Hid ((⟨i,S,zeroC k,[],List.replicate m (zeroC k)++List.replicate (k - m) []⟩:NdS)=dm):=⟨_,Za rfl⟩;rw[HDM.out]at HNm;obtain⟨z1,t1,z2,t2,z3,t3,z4,t4,z5,t5,z6,t6,hbx,-,-,-,-,hkn⟩:=HNm.form;have hml:dm.known.length=k:=by rw[←HDM.out];simp;omega
    by_cases hlt:m<k
    ·have hlt':(m:Int)<(k:Int):=by omega
     obtain⟨gk,hgk,-,hkB,hkl2,hcell⟩:=hkn.block (by omega);subst hgk;obtain⟨v0,hc0,hf0⟩:=hcell m (by omega);have HBX:=Za hbx;have HKN:=Za hkn;have g6:=hbx.get 6 rfl;rw[hml]at g6;have HG6:=Za g6;have HC0:=Za hc0;have HF0:=Za hf0
     have hne:gd≠gk:=by
      intro he;obtain⟨qs,k1,-⟩:=HKN.out;have hbx2:=HBX.out;rw[he]at hbx2;exact Uv k1.1 hbx2 (by decide) rfl
     clear hbx hkn hcell hc0 hf0
     go_upto_region 9 with fail
     clear g6;refine wp_region_held_drew (S:=fun w'=>w'.cell? ⟨gd,6,none⟩=some (.slice (some ⟨gk,0,none⟩) k t6)) (by kernel_rfl) HG6.out (fun hHeld=>?_);obtain⟨wd,HWD⟩:∃wd,Hid (w4.drew=wd):=⟨_,rfl⟩;have hg0:Zh w4 wd:=by rw[←HWD.out];exact Zf (Zi w4)
     rw[HWD.out]at hHeld ⊢;refine ty 0 (.pointer (some ⟨gd,6,none⟩)) ?_;refine ty 1 (.slice (some ⟨gk,0,none⟩) k t6) ?_;refine ty 2 (.int .i64 (m:Int)) ?_;refine ty 3 (.int .i64 (k:Int)) ?_;have hgl:=HNm.lt;refine wr 4 fun K hK=>?_;go_simp;have hb5:=bpl wd (.cells cs 3);have ho5:=hoz.out wd (by have:=hg0.size;omega);obtain⟨w5,HW5⟩:∃wn,Hid (wd.alloc (.cells cs 3)=wn):=⟨_,rfl⟩;rw[HW5.out]at hb5 ho5 ⊢;have hg5:Zh w4 w5:=Zd hg0 hb5;have X5:=HBX.below hg5 (nlr _);have N5:=HNm.below hg5 (nlr _);refine hK.out _ _ (by have:=X5.get 6 rfl;rw[hml]at this;exact this) (fun _=>?_);clear hK K
     try simp only[Act.put,Zt,Zs,Zr]
     refine ty 5 (.pointer (some ⟨gk,m,none⟩)) ?_;have c5:=(hg5.cell (p:=⟨gk,m,none⟩) (World.block_lt_of_cell? w4 _ HC0.out)).trans HC0.out;obtain⟨gk',hgk',-,-,-,hcell2⟩:=(HKN.below hg5 (nlr _)).block (by omega);simp only[Option.some.injEq,Addr.mk.injEq,and_true]at hgk';subst hgk';obtain⟨v5,hc5,hf5⟩:=hcell2 m (by omega);have N6:=N5.setKn X5 (k:=m) (by omega) ho5;have X6:=X5.away (g':=gk) (i:=m) (v:=.slice (some ⟨wd.heap.size,0,none⟩) k k) hne;have HB6:=(HBm.trans (hg5.mono (B':=W1.heap.size) (by omega))).setCell (p:=⟨gk,m,none⟩) hkB (.slice (some ⟨wd.heap.size,0,none⟩) k k)
     have hdn:(⟨dm.self,dm.st,dm.base,dm.log,dm.known.set m (zeroC k)⟩:NdS)=⟨i,S,zeroC k,[],List.replicate (m+1) (zeroC k)++List.replicate (k - (m+1)) []⟩:=by
      rw[←HDM.out];simp only[NdS.mk.injEq,true_and];exact set_rep hlt
     rw[hdn]at N6;refine wr 6 fun K hK=>?_;go_simp;refine hK.out _ _ (by have:=X6.get 6 rfl;rw[hml]at this;exact this) (fun _=>?_);clear hK K hc5 hf5 c5
     try simp only[Act.put,Zt,Zs,Zr]
     refine wpAnyH_done (by kernel_rfl) ?_ _;have HN6:=Za N6;have HHB6:=Za HB6;clear N6 HB6 X5 N5 X6 ho5
     go_wp2_with fail
     go_roundw
     case rel=>exact⟨m+1,by omega,by go_num,HN6,HHB6⟩
     case measure=>simp[intOf];omega
    have hmk:m=k:=by omega
    have hlt':¬(m:Int)<(k:Int):=by omega
    have hdx:dm=X:=by
     rw[←HDM.out,←HXX.out,hmk]
     simp
    clear hmk HDM HXX;subst hdx;obtain⟨g0,g1,g2,g3,g4,g5,g6⟩:=hbx.c7;have HV:=Za ((HNm.value hbx).base (C:=w.heap.size+1) (by have:=hsz.out;omega));clear hbx hkn hml hkl;have r0:=R4.get 0 rfl;have s0:=R4.free 0;have r1:=R4.get 1 rfl;have s1:=R4.free 1;have r2:=R4.get 2 rfl;have s2:=R4.free 2;have r3:=R4.get 3 rfl;have s3:=R4.free 3;have r4:=R4.get 4 rfl;have s4:=R4.free 4;have r5:=R4.get 5 rfl;have s5:=R4.free 5;have r6:=R4.get 6 rfl;have s6:=R4.free 6
    go_wp2_with fail
    have hR:=((((((((R4.out).set 0 (.int .i64 dm.self)).set 1 (.slice z1 dm.st.clock.length t1)).set 2 (.slice z2 dm.st.lives.length t2)).set 3 (.slice z3 dm.st.tals.length t3)).set 4 (.slice z4 dm.base.length t4)).set 5 (.slice z5 dm.log.length t5)).set 6 (.slice z6 dm.known.length t6));have hV:=((((((((HV.out).away (g:=w.heap.size) (by omega) 0 (.int .i64 dm.self)).away (g:=w.heap.size) (by omega) 1 (.slice z1 dm.st.clock.length t1)).away (g:=w.heap.size) (by omega) 2 (.slice z2 dm.st.lives.length t2)).away (g:=w.heap.size) (by omega) 3 (.slice z3 dm.st.tals.length t3)).away (g:=w.heap.size) (by omega) 4 (.slice z4 dm.base.length t4)).away (g:=w.heap.size) (by omega) 5 (.slice z5 dm.log.length t5)).away (g:=w.heap.size) (by omega) 6 (.slice z6 dm.known.length t6));refine bodyPost_ret (Zc rfl _ _ w.heap.size 31 _ (0,0) _ rfl hR Tryz.underlying31 rfl Tryz.sizeNode) rfl ⟨_,rfl,hV,?_⟩
    exact((((((((HBw.out).setCell (by show w.heap.size≤w.heap.size;omega) _).setCell (by show w.heap.size≤w.heap.size;omega) _).setCell (by show w.heap.size≤w.heap.size;omega) _).setCell (by show w.heap.size≤w.heap.size;omega) _).setCell (by show w.heap.size≤w.heap.size;omega) _).setCell (by show w.heap.size≤w.heap.size;omega) _).setCell (by show w.heap.size≤w.heap.size;omega) _)
   have hdi:decide (0≤i∧i<(k:Int))=false:=decide_eq_false hi;have hE:=HE1.out;rw[if_neg hi]at hE;subst hE;have hX:=HXB.out (by decide);subst hX;rw[hdi];clear hi hdi HXB HE1;have r0:=R3.get 0 rfl;have s0:=R3.free 0;have r1:=R3.get 1 rfl;have s1:=R3.free 1;have r2:=R3.get 2 rfl;have s2:=R3.free 2;have r3:=R3.get 3 rfl;have s3:=R3.free 3;have r4:=R3.get 4 rfl;have s4:=R3.free 4;have r5:=R3.get 5 rfl;have s5:=R3.free 5;have r6:=R3.get 6 rfl;have s6:=R3.free 6
   go_wp2_with fail
   have hR:=((((((((R3.out).set 0 (.int .i64 0)).set 1 (.slice none 0 0)).set 2 (.slice none 0 0)).set 3 (.slice none 0 0)).set 4 (.slice none 0 0)).set 5 (.slice none 0 0)).set 6 (.slice none 0 0));have hV:=((((((((Yo.none w3 (w.heap.size+1)).away (g:=w.heap.size) (by omega) 0 (.int .i64 0)).away (g:=w.heap.size) (by omega) 1 (.slice none 0 0)).away (g:=w.heap.size) (by omega) 2 (.slice none 0 0)).away (g:=w.heap.size) (by omega) 3 (.slice none 0 0)).away (g:=w.heap.size) (by omega) 4 (.slice none 0 0)).away (g:=w.heap.size) (by omega) 5 (.slice none 0 0)).away (g:=w.heap.size) (by omega) 6 (.slice none 0 0));refine bodyPost_ret (Zc rfl _ _ w.heap.size 31 _ (0,0) _ rfl hR Tryz.underlying31 rfl Tryz.sizeNode) rfl ⟨_,rfl,hV,?_⟩
   exact((((((((HB3.out).setCell (by show w.heap.size≤w.heap.size;omega) _).setCell (by show w.heap.size≤w.heap.size;omega) _).setCell (by show w.heap.size≤w.heap.size;omega) _).setCell (by show w.heap.size≤w.heap.size;omega) _).setCell (by show w.heap.size≤w.heap.size;omega) _).setCell (by show w.heap.size≤w.heap.size;omega) _).setCell (by show w.heap.size≤w.heap.size;omega) _)
  have hE:5=E:=by rw[←HE.out];unfold zH;rw[if_neg (by omega)]
  have hc1:¬(n<1):=by omega
  have hc6:n > 6:=by omega
  have hc6':6<n:=by omega
  have hX:=HXB.out (by rw[←hE];decide);subst hX;subst hE;clear HXB
  go_enter Tryz.func5,Tryz.ntmps5
  go_upto_region 1 with fail
  rw[HW1.out];have r0:=R0.get 0 rfl;have s0:=R0.free 0;have r1:=R0.get 1 rfl;have s1:=R0.free 1;have r2:=R0.get 2 rfl;have s2:=R0.free 2;have r3:=R0.get 3 rfl;have s3:=R0.free 3;have r4:=R0.get 4 rfl;have s4:=R0.free 4;have r5:=R0.get 5 rfl;have s5:=R0.free 5;have r6:=R0.get 6 rfl;have s6:=R0.free 6
  go_wp2_with fail
  have hR:=((((((((R0.out).set 0 (.int .i64 0)).set 1 (.slice none 0 0)).set 2 (.slice none 0 0)).set 3 (.slice none 0 0)).set 4 (.slice none 0 0)).set 5 (.slice none 0 0)).set 6 (.slice none 0 0));have hV:=((((((((Yo.none W1 (w.heap.size+1)).away (g:=w.heap.size) (by omega) 0 (.int .i64 0)).away (g:=w.heap.size) (by omega) 1 (.slice none 0 0)).away (g:=w.heap.size) (by omega) 2 (.slice none 0 0)).away (g:=w.heap.size) (by omega) 3 (.slice none 0 0)).away (g:=w.heap.size) (by omega) 4 (.slice none 0 0)).away (g:=w.heap.size) (by omega) 5 (.slice none 0 0)).away (g:=w.heap.size) (by omega) 6 (.slice none 0 0));refine bodyPost_ret (Zc rfl _ _ w.heap.size 31 _ (0,0) _ rfl hR Tryz.underlying31 rfl Tryz.sizeNode) rfl ⟨_,rfl,hV,?_⟩
  exact((((((((HB0.out).setCell (by show w.heap.size≤w.heap.size;omega) _).setCell (by show w.heap.size≤w.heap.size;omega) _).setCell (by show w.heap.size≤w.heap.size;omega) _).setCell (by show w.heap.size≤w.heap.size;omega) _).setCell (by show w.heap.size≤w.heap.size;omega) _).setCell (by show w.heap.size≤w.heap.size;omega) _).setCell (by show w.heap.size≤w.heap.size;omega) _)
 have hE:5=E:=by rw[←HE.out];unfold zH;rw[if_neg (by omega)]
 have hc1:n<1:=by omega
 have hX:=HXB.out (by rw[←hE];decide);subst hX;subst hE;clear HXB
 go_enter Tryz.func5,Tryz.ntmps5
 go_upto_region 1 with fail
 rw[HW1.out];have r0:=R0.get 0 rfl;have s0:=R0.free 0;have r1:=R0.get 1 rfl;have s1:=R0.free 1;have r2:=R0.get 2 rfl;have s2:=R0.free 2;have r3:=R0.get 3 rfl;have s3:=R0.free 3;have r4:=R0.get 4 rfl;have s4:=R0.free 4;have r5:=R0.get 5 rfl;have s5:=R0.free 5;have r6:=R0.get 6 rfl;have s6:=R0.free 6
 go_wp2_with fail
 have hR:=((((((((R0.out).set 0 (.int .i64 0)).set 1 (.slice none 0 0)).set 2 (.slice none 0 0)).set 3 (.slice none 0 0)).set 4 (.slice none 0 0)).set 5 (.slice none 0 0)).set 6 (.slice none 0 0));have hV:=((((((((Yo.none W1 (w.heap.size+1)).away (g:=w.heap.size) (by omega) 0 (.int .i64 0)).away (g:=w.heap.size) (by omega) 1 (.slice none 0 0)).away (g:=w.heap.size) (by omega) 2 (.slice none 0 0)).away (g:=w.heap.size) (by omega) 3 (.slice none 0 0)).away (g:=w.heap.size) (by omega) 4 (.slice none 0 0)).away (g:=w.heap.size) (by omega) 5 (.slice none 0 0)).away (g:=w.heap.size) (by omega) 6 (.slice none 0 0));refine bodyPost_ret (Zc rfl _ _ w.heap.size 31 _ (0,0) _ rfl hR Tryz.underlying31 rfl Tryz.sizeNode) rfl ⟨_,rfl,hV,?_⟩
 exact((((((((HB0.out).setCell (by show w.heap.size≤w.heap.size;omega) _).setCell (by show w.heap.size≤w.heap.size;omega) _).setCell (by show w.heap.size≤w.heap.size;omega) _).setCell (by show w.heap.size≤w.heap.size;omega) _).setCell (by show w.heap.size≤w.heap.size;omega) _).setCell (by show w.heap.size≤w.heap.size;omega) _).setCell (by show w.heap.size≤w.heap.size;omega) _)
end Go.Proofs.YtfhecilhcofboaaGreat
