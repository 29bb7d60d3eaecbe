/- state.Wrong: what is wrong with a state. The document's own Same of two states that read the same answers true. -/
import Derived.Test.YtfhecilhcofboaaGreatStE
namespace Go.Proofs.YtfhecilhcofboaaGreat
open Go.RowKit

structure StS where
 clock:List Int
 lives:List Zk
 tals:List Tal
def Jp(w:World)(v:Value)(s:StS):Prop:=
 ∃cv lv tv,v=.agg #[cv,lv,tv]∧Row w cv s.clock∧Yf 5 Zv w lv s.lives∧Yf 3 Yb w tv s.tals
theorem Jp.below{w w':World}{v:Value}{s:StS}(h:Jp w v s){B:Nat}(hb:Below B w w')(hB:w.heap.size≤B):Jp w' v s:=by
 obtain⟨cv,lv,tv,h1,h2,h3,h4⟩:=h;exact⟨cv,lv,tv,h1,h2.below hb hB,h3.below hb hB,h4.below hb hB⟩
theorem Jp.alloc{w:World}{v:Value}{s:StS}(h:Jp w v s)(o:Obj):Jp (w.alloc o) v s:=h.below ((Below.refl w.heap.size _).alloc (nlr _) o) (nlr _)

def stE(s:StS)(n:Int):Int:=if Zn s.clock n≠0 then Zn s.clock n else if Vr (Zo s.clock) Yj s.lives≠0 then Vr (Zo s.clock) Yj s.lives else Vr (Zq s.clock) Yr s.tals
def stA(s:StS)(n:Int):Int:=if Zn s.clock n≠0 then 0 else if Vr (Zo s.clock) Yj s.lives≠0 then zO (Zo s.clock) Yj s.lives else zO (Zq s.clock) Yr s.tals

set_option maxRecDepth 100000 in
set_option maxHeartbeats 2000000 in
theorem Xg(v:Value)(s:StS)(n:Int)(w:World)(h:Jp w v s):
  Calls Tryz.prog 28 #[v,.int .i64 n] w fun e w'=>e=.returned (.agg #[.int .i64 (stE s n),.int .i64 (stA s n)])∧Below w.heap.size w w':=by
 obtain⟨cv,lv,tv,rfl,hc,hl,ht⟩:=h;obtain⟨a1,cap1,rfl,-,-,-⟩:=id hc;obtain⟨a2,cap2,rfl,-,-,-⟩:=id hl;obtain⟨a3,cap3,rfl,-,-,-⟩:=id ht;have hb2:=Below.plus (bpl w (.cells #[.slice a1 s.clock.length cap1,.slice a2 s.lives.length cap2,.slice a3 s.tals.length cap3] 27)) (.cells #[.int .i64 0,.int .i64 0] 65);have C0:=Za (hc.below hb2 (nlr _));have L0:=Za (hl.below hb2 (nlr _));have T0:=Za (ht.below hb2 (nlr _));have G0:=Za ((Box.new w [.slice a1 s.clock.length cap1,.slice a2 s.lives.length cap2,.slice a3 s.tals.length cap3] 27).plus (.cells #[.int .i64 0,.int .i64 0] 65));have Z0:=Za (Box.new (w.alloc (.cells #[.slice a1 s.clock.length cap1,.slice a2 s.lives.length cap2,.slice a3 s.tals.length cap3] 27)) [.int .i64 0,.int .i64 0] 65);rw[World.size_alloc]at Z0;have HB0:=Za hb2;clear hc hl ht hb2;obtain⟨E,HE⟩:∃E,Hid (stE s n=E):=⟨_,rfl⟩;obtain⟨A,HA⟩:∃A,Hid (stA s n=A):=⟨_,rfl⟩;rw[HE.out,HA.out];unfold stE at HE;unfold stA at HA;obtain⟨r,HR⟩:∃r,Hid (Zn s.clock n=r):=⟨_,rfl⟩;obtain⟨r1,HR1⟩:∃r1,Hid (Vr (Zo s.clock) Yj s.lives=r1):=⟨_,rfl⟩;obtain⟨q1,HQ1⟩:∃q1,Hid (zO (Zo s.clock) Yj s.lives=q1):=⟨_,rfl⟩;obtain⟨r2,HR2⟩:∃r2,Hid (Vr (Zq s.clock) Yr s.tals=r2):=⟨_,rfl⟩;obtain⟨q2,HQ2⟩:∃q2,Hid (zO (Zq s.clock) Yr s.tals=q2):=⟨_,rfl⟩;rw[HR.out,HR1.out,HR2.out]at HE;rw[HR.out,HR1.out,HQ1.out,HQ2.out]at HA
 by_cases hr:r=0
 ·subst hr;have hk:∀k,k<s.clock.length→0≤s.clock.getD k 0∧s.clock.getD k 0≤1000:=(Yq HR.out).2.2.2;have HKK:=Za hk;clear hk
  by_cases hr1:r1=0
  ·subst hr1;obtain rfl:r2=E:=by rw[←HE.out];simp
   obtain rfl:q2=A:=by rw[←HA.out];simp
   clear HE HA
   go_enter Tryz.func28,Tryz.ntmps28
   obtain⟨cG0,cG1,cG2⟩:=G0.c3
   go_wp2_with fail
   refine(Yk _ s.clock n _ C0.out).mono ?_;rintro e w' ⟨rfl,hw'⟩;rw[hw'];clear hw' w';rw[HR.out]
   go_wp2_with fail
   refine(listWrong_live _ s.lives w.heap.size _ _ _ s.clock _ L0.out G0.out C0.out).mono ?_;rintro e w1 ⟨rfl,hb⟩;have HB1:=Za (Zb HB0.out hb);have C1:=Za (C0.below hb (nlr _));have L1:=Za (L0.below hb (nlr _));have T1:=Za (T0.below hb (nlr _));have G1:=Za (G0.below hb (nlr _));have Z1:=Za (Z0.below hb (nlr _));clear HB0 hb C0 L0 T0 G0 Z0;rw[HR1.out,HQ1.out];clear cG0 cG1 cG2;have HB2:=Za (Zb HB1.out (bpl w1 (.cells #[.int .i64 0,.int .i64 q1] 65)));have C2:=Za (C1.below (bpl w1 (.cells #[.int .i64 0,.int .i64 q1] 65)) (nlr _));have L2:=Za (L1.below (bpl w1 (.cells #[.int .i64 0,.int .i64 q1] 65)) (nlr _));have T2:=Za (T1.below (bpl w1 (.cells #[.int .i64 0,.int .i64 q1] 65)) (nlr _));have G2:=Za (G1.below (bpl w1 (.cells #[.int .i64 0,.int .i64 q1] 65)) (nlr _));have Z2:=Za (Z1.below (bpl w1 (.cells #[.int .i64 0,.int .i64 q1] 65)) (nlr _));have V2:=Za (Box.new w1 [.int .i64 0,.int .i64 q1] 65);clear HB1 C1 L1 T1 G1 Z1;obtain⟨cG0,cG1,cG2⟩:=G2.c3
   go_wp2_with fail
   refine(listWrong_tally _ s.tals w.heap.size _ _ _ s.clock _ T2.out G2.out C2.out HKK.out).mono ?_;rintro e w3 ⟨rfl,hb⟩;have HB3:=Za (Zb HB2.out hb);have C3:=Za (C2.below hb (nlr _));have L3:=Za (L2.below hb (nlr _));have T3:=Za (T2.below hb (nlr _));have G3:=Za (G2.below hb (nlr _));have Z3:=Za (Z2.below hb (nlr _));have V3:=Za (V2.below hb (nlr _));clear HB2 hb C2 L2 T2 G2 Z2 V2;rw[HR2.out,HQ2.out];obtain⟨cZ0,cZ1⟩:=Z3.c2;have f0:=Z3.free 0;have f1:=Z3.free 1
   go_wp2_with fail
   have hZ:=(Z3.set 0 (.int .i64 r2)).set 1 (.int .i64 q2);refine bodyPost_ret (results_cell_row rfl _ _ (w.heap.size+1) 65 _ (0,0) _ rfl hZ Tryz.underlying65 rfl Tryz.sizeFault) rfl ⟨rfl,?_⟩
   exact(HB3.setCell (by show w.heap.size≤w.heap.size+1;omega) _).setCell (by show w.heap.size≤w.heap.size+1;omega) _
  have hr1':(r1 != 0)=true:=by simp[hr1]
  obtain rfl:r1=E:=by rw[←HE.out];simp[hr1]
  obtain rfl:q1=A:=by rw[←HA.out];simp[hr1]
  clear HE HA
  go_enter Tryz.func28,Tryz.ntmps28
  obtain⟨cG0,cG1,cG2⟩:=G0.c3
  go_wp2_with fail
  refine(Yk _ s.clock n _ C0.out).mono ?_;rintro e w' ⟨rfl,hw'⟩;rw[hw'];clear hw' w';rw[HR.out]
  go_wp2_with fail
  refine(listWrong_live _ s.lives w.heap.size _ _ _ s.clock _ L0.out G0.out C0.out).mono ?_;rintro e w1 ⟨rfl,hb⟩;have HB1:=Za (Zb HB0.out hb);have C1:=Za (C0.below hb (nlr _));have L1:=Za (L0.below hb (nlr _));have T1:=Za (T0.below hb (nlr _));have G1:=Za (G0.below hb (nlr _));have Z1:=Za (Z0.below hb (nlr _));clear HB0 hb C0 L0 T0 G0 Z0;rw[HR1.out,HQ1.out];clear cG0 cG1 cG2;have HB2:=Za (Zb HB1.out (bpl w1 (.cells #[.int .i64 r1,.int .i64 q1] 65)));have C2:=Za (C1.below (bpl w1 (.cells #[.int .i64 r1,.int .i64 q1] 65)) (nlr _));have L2:=Za (L1.below (bpl w1 (.cells #[.int .i64 r1,.int .i64 q1] 65)) (nlr _));have T2:=Za (T1.below (bpl w1 (.cells #[.int .i64 r1,.int .i64 q1] 65)) (nlr _));have G2:=Za (G1.below (bpl w1 (.cells #[.int .i64 r1,.int .i64 q1] 65)) (nlr _));have Z2:=Za (Z1.below (bpl w1 (.cells #[.int .i64 r1,.int .i64 q1] 65)) (nlr _));have V2:=Za (Box.new w1 [.int .i64 r1,.int .i64 q1] 65);clear HB1 C1 L1 T1 G1 Z1;obtain⟨cV0,cV1⟩:=V2.c2;obtain⟨cZ0,cZ1⟩:=Z2.c2;have f0:=Z2.free 0;have f1:=Z2.free 1
  go_wp2_with fail
  have hZ:=(Z2.set 0 (.int .i64 r1)).set 1 (.int .i64 q1);refine bodyPost_ret (results_cell_row rfl _ _ (w.heap.size+1) 65 _ (0,0) _ rfl hZ Tryz.underlying65 rfl Tryz.sizeFault) rfl ⟨rfl,?_⟩
  exact(HB2.setCell (by show w.heap.size≤w.heap.size+1;omega) _).setCell (by show w.heap.size≤w.heap.size+1;omega) _
 have hr':(r != 0)=true:=by simp[hr]
 obtain rfl:r=E:=by rw[←HE.out];simp[hr]
 obtain rfl:(0:Int)=A:=by rw[←HA.out];simp[hr]
 clear HE HA
 go_enter Tryz.func28,Tryz.ntmps28
 obtain⟨cG0,cG1,cG2⟩:=G0.c3
 go_wp2_with fail
 refine(Yk _ s.clock n _ C0.out).mono ?_;rintro e w' ⟨rfl,hw'⟩;rw[hw'];clear hw' w';rw[HR.out];obtain⟨cZ0,cZ1⟩:=Z0.c2;have f0:=Z0.free 0;have f1:=Z0.free 1
 go_wp2_with fail
 have hZ:=Box.new (w.alloc (.cells #[.slice a1 s.clock.length cap1,.slice a2 s.lives.length cap2,.slice a3 s.tals.length cap3] 27)) [.int .i64 r,.int .i64 0] 65;rw[World.size_alloc]at hZ;refine bodyPost_ret (results_cell_row rfl _ _ (w.heap.size+1) 65 _ (0,0) _ rfl hZ Tryz.underlying65 rfl Tryz.sizeFault) rfl ⟨rfl,?_⟩;exact Below.plus (bpl w _) _


set_option maxRecDepth 100000 in
set_option maxHeartbeats 2000000 in
theorem same_st(v u:Value)(s:StS)(w:World)(h:Jp w v s)(hu:Jp w u s):
  Calls Tryz.prog 24 #[v,u] w fun e w'=>e=.returned (.bool true)∧Below w.heap.size w w':=by
 obtain⟨cv,lv,tv,rfl,hc,hv,ht⟩:=h;obtain⟨a1,cap1,rfl,-,-,-⟩:=id hc;obtain⟨a2,cap2,rfl,-,-,-⟩:=id hv;obtain⟨a3,cap3,rfl,-,-,-⟩:=id ht;obtain⟨cv',lv',tv',rfl,hc',hv',ht'⟩:=hu;obtain⟨b1,dap1,rfl,-,-,-⟩:=id hc';obtain⟨b2,dap2,rfl,-,-,-⟩:=id hv';obtain⟨b3,dap3,rfl,-,-,-⟩:=id ht';have hlL:=hv.len_le;have hlT:=ht.len_le;have hb2:=Below.plus (bpl w (.cells #[.slice a1 s.clock.length cap1,.slice a2 s.lives.length cap2,.slice a3 s.tals.length cap3] 27)) (.cells #[.slice b1 s.clock.length dap1,.slice b2 s.lives.length dap2,.slice b3 s.tals.length dap3] 27);have C0:=Za (hc.below hb2 (nlr _));have D0:=Za (hc'.below hb2 (nlr _));have L0:=Za (hv.below hb2 (nlr _));have M0:=Za (hv'.below hb2 (nlr _));have T0:=Za (ht.below hb2 (nlr _));have S0:=Za (ht'.below hb2 (nlr _));have G0:=Za ((Box.new w [.slice a1 s.clock.length cap1,.slice a2 s.lives.length cap2,.slice a3 s.tals.length cap3] 27).plus (.cells #[.slice b1 s.clock.length dap1,.slice b2 s.lives.length dap2,.slice b3 s.tals.length dap3] 27));have H0:=Za (Box.new (w.alloc (.cells #[.slice a1 s.clock.length cap1,.slice a2 s.lives.length cap2,.slice a3 s.tals.length cap3] 27)) [.slice b1 s.clock.length dap1,.slice b2 s.lives.length dap2,.slice b3 s.tals.length dap3] 27);rw[World.size_alloc]at H0;have HB0:=Za hb2;have e1:((s.lives.length:Int) != (s.lives.length:Int))=false:=by simp
 have e2:((s.tals.length:Int) != (s.tals.length:Int))=false:=by simp
 clear hc hv ht hc' hv' ht' hb2
 go_enter Tryz.func24,Tryz.ntmps24
 obtain⟨cG0,cG1,cG2⟩:=G0.c3;obtain⟨cH0,cH1,cH2⟩:=H0.c3
 go_wp2_with fail
 refine(same_ref _ _ s.clock s.clock _ C0.out D0.out).mono ?_;rintro e w1 ⟨rfl,hb⟩;have HB1:=Za (Zb HB0.out hb);have C1:=Za (C0.below hb (nlr _));have D1:=Za (D0.below hb (nlr _));have L1:=Za (L0.below hb (nlr _));have M1:=Za (M0.below hb (nlr _));have T1:=Za (T0.below hb (nlr _));have S1:=Za (S0.below hb (nlr _));have G1:=Za (G0.below hb (nlr _));have H1:=Za (H0.below hb (nlr _));clear HB0 hb C0 D0 L0 M0 T0 S0 G0 H0;have e0:decide (s.clock=s.clock)=true:=by simp
 rw[e0];clear cG0 cG1 cG2;clear cH0 cH1 cH2;obtain⟨cG0,cG1,cG2⟩:=G1.c3;obtain⟨cH0,cH1,cH2⟩:=H1.c3
 go_wp2_with fail
 go_loopw [34] (fun i wr=>∃k:Nat,k≤s.lives.length∧i=.int .i64 k∧Hid (Below w1.heap.size w1 wr)) (fun i _=>s.lives.length - (intOf i).toNat)
 case atStart=>exact⟨0,Nat.zero_le _,rfl,Za (Below.refl _ _)⟩
 obtain⟨k,hk,rfl,HBr⟩:=hrel;obtain⟨w2,rfl⟩:∃w2,w2=wr:=⟨wr,rfl⟩;have G2:=Za (G1.below HBr.out (nlr _));have H2:=Za (H1.below HBr.out (nlr _));have L2:=Za (L1.below HBr.out (nlr _));have M2:=Za (M1.below HBr.out (nlr _));have g1:=G2.get 1 rfl;have h1:=H2.get 1 rfl;have g2:=G2.get 2 rfl;have h2:=H2.get 2 rfl;clear cG0 cG1 cG2 cH0 cH1 cH2
 by_cases hlt:k<s.lives.length
 ·obtain⟨x,hx⟩:∃x,s.lives[k]? =some x:=⟨_,List.getElem?_eq_getElem hlt⟩;obtain⟨b,off,rfl,d0,d1,d2,d3,d4⟩:=Va L2.out hx;obtain⟨b',off',rfl,p0,p1,p2,p3,p4⟩:=Va M2.out hx;have hlt':(k:Int)<(s.lives.length:Int):=by omega
  go_wp2_with fail
  go_quiet (fail)
  go_wp2_with fail
  go_roundw
  case rel=>exact⟨k+1,by omega,by go_num,Za (Yp HBr.out _)⟩
  case measure=>simp[intOf];omega
 have hlt':¬(k:Int)<(s.lives.length:Int):=by omega
 have HB2:=Za (Zb HB1.out HBr.out);have T2:=Za (T1.below HBr.out (nlr _));have S2:=Za (S1.below HBr.out (nlr _));clear HB1 T1 S1 G1 H1 L1 M1 C1 D1 L2 M2 HBr
 go_wp2_with fail
 go_loopw [52] (fun i wr=>∃k:Nat,k≤s.tals.length∧i=.int .i64 k∧Hid (Below w2.heap.size w2 wr)) (fun i _=>s.tals.length - (intOf i).toNat)
 case atStart=>exact⟨0,Nat.zero_le _,rfl,Za (Below.refl _ _)⟩
 obtain⟨k,hk,rfl,HBr⟩:=hrel;obtain⟨w3,rfl⟩:∃w3,w3=wr:=⟨wr,rfl⟩;have G3:=Za (G2.below HBr.out (nlr _));have H3:=Za (H2.below HBr.out (nlr _));have T3:=Za (T2.below HBr.out (nlr _));have S3:=Za (S2.below HBr.out (nlr _));clear g1 g2 h1 h2;have g2:=G3.get 2 rfl;have h2:=H3.get 2 rfl
 by_cases hlt:k<s.tals.length
 ·obtain⟨x,hx⟩:∃x,s.tals[k]? =some x:=⟨_,List.getElem?_eq_getElem hlt⟩;obtain⟨b,off,rfl,d0,d1,d2⟩:=Jy T3.out hx;obtain⟨b',off',rfl,p0,p1,p2⟩:=Jy S3.out hx;have hlt':(k:Int)<(s.tals.length:Int):=by omega
  go_wp2_with fail
  go_quiet (fail)
  go_wp2_with fail
  go_roundw
  case rel=>exact⟨k+1,by omega,by go_num,Za (Yp HBr.out _)⟩
  case measure=>simp[intOf];omega
 have hlt':¬(k:Int)<(s.tals.length:Int):=by omega
 go_wp2_with fail
 go_ret
 exact⟨rfl,Zb HB2.out HBr.out⟩
end Go.Proofs.YtfhecilhcofboaaGreat
/- A state is right just where Wrong says so; how many lives and tallies a right one can have. -/
namespace Go.Proofs.YtfhecilhcofboaaGreat
open Go.RowKit

theorem Vs{α:Type}{R S:α→α→Prop}:∀{l:List α},(∀a ∈ l,∀b ∈ l,R a b→S a b)→l.Pairwise R→l.Pairwise S
 |[],_,_=>List.Pairwise.nil
 |x::r,h,hp=>by
  obtain⟨h1,h2⟩:=List.pairwise_cons.1 hp;exact List.pairwise_cons.2 ⟨fun z hz=>h x (by simp) z (List.mem_cons_of_mem _ hz) (h1 z hz),Vs (fun a ha b hb=>h a (List.mem_cons_of_mem _ ha) b (List.mem_cons_of_mem _ hb)) h2⟩
section
variable {α:Type}{wr:α→Int}{cm:α→α→Int}
def chainOk(cm:α→α→Int):Option α→List α→Prop
 |_,[]=>True
 |p,x::r=>Yw cm p x=false∧chainOk cm (some x) r
theorem goE_zero:∀(l:List α) (p:Option α),goE wr cm p l=0↔(∀x ∈ l,wr x=0)∧chainOk cm p l
 |[],p=>by simp[goE,chainOk]
 |x::r,p=>by
  rw[goE,chainOk]
  by_cases h1:wr x=0
  ·rw[if_neg (by simpa using h1)]
   cases h2:Yw cm p x
   ·rw[if_neg (by simp),goE_zero r (some x)]
    simp[h1]
   rw[if_pos rfl]
   simp
  rw[if_pos h1]
  simp[h1]
theorem chain_pair(tr:∀x y z,cm x y<0→cm y z<0→cm x z<0):∀(r:List α) (y:α),chainOk cm (some y) r→(y::r).Pairwise fun a b=>cm a b<0
 |[],y,_=>by simp
 |x::r,y,h=>by
  obtain⟨h1,h2⟩:=h
  have hyx:cm y x<0:=by
   simp only[Yw,decide_eq_false_iff_not]at h1;omega
  have ih:=chain_pair tr r x h2;obtain⟨i1,-⟩:=List.pairwise_cons.1 ih;refine List.pairwise_cons.2 ⟨fun z hz=>?_,ih⟩
  rcases List.mem_cons.1 hz with rfl|hz
  ·exact hyx
  exact tr y x z hyx (i1 z hz)
theorem pair_chain:∀(r:List α) (p:Option α),(∀y,p=some y→∀z ∈ r,cm y z<0)→r.Pairwise (fun a b=>cm a b<0)→chainOk cm p r
 |[],_,_,_=>trivial
 |x::r,p,hp,h=>by
  obtain⟨h1,h2⟩:=List.pairwise_cons.1 h;refine⟨?_,pair_chain r (some x) (fun y hy z hz=>by simp only[Option.some.injEq]at hy;subst hy;exact h1 z hz) h2⟩
  cases p with
  |none=>rfl
  |some y=>
   have:=hp y rfl x (by simp);simp only[Yw,decide_eq_false_iff_not];omega
theorem listE_zero(tr:∀x y z,cm x y<0→cm y z<0→cm x z<0)(l:List α):Vr wr cm l=0↔(∀x ∈ l,wr x=0)∧l.Pairwise fun a b=>cm a b<0:=by
 unfold Vr;rw[goE_zero]
 constructor
 ·rintro⟨h1,h2⟩;refine⟨h1,?_⟩
  cases l with
  |nil=>simp
  |cons x r=>exact chain_pair tr r x h2.2
 rintro⟨h1,h2⟩;exact⟨h1,pair_chain l none (fun y hy=>by cases hy) h2⟩
end
theorem cmpL_tr(x y z:Zk)(h:Yj x y<0)(h':Yj y z<0):Yj x z<0:=Jw.2 (Je (Jw.1 h) (Jw.1 h'))
theorem cmpT_tr(x y z:Tal)(h:Yr x y<0)(h':Yr y z<0):Yr x z<0:=by
 have h1:=Qq.1 h;have h2:=Qq.1 h';refine Qq.2 ?_;unfold Jb at*;omega

theorem xG{c:List Int}{x:Zk}:Zo c x=0↔xU c.length x∧x.seq≤c.getD x.author.toNat 0:=by
 unfold xU
 rcases wrongLv_ways c x with⟨h1,h2⟩|⟨h0,h1,⟨h2,h3⟩|⟨h2,⟨h3,h4⟩|⟨h3,⟨h4,h5⟩|⟨h4,⟨h5,h6⟩|⟨h5,h6⟩⟩⟩⟩⟩
 ·rw[h2];omega
 ·rw[h3];omega
 ·rw[h4];simp only[Oa,decide_eq_false_iff_not]at h3;omega
 ·rw[h5];simp only[Xo,decide_eq_false_iff_not]at h4;omega
 ·rw[h6];simp only[Oa,Xo,Vy,decide_eq_true_eq]at h3 h4 h5;omega
 rw[h6];simp only[Vy,decide_eq_false_iff_not]at h5;omega
theorem xF{c:List Int}{t:Tal}:Zq c t=0↔yS c.length c t∧t.sum≠0:=by
 unfold yS
 rcases wrongTl_ways c t with⟨h1,h2⟩|⟨h0,h1,⟨h2,h3⟩|⟨h2,⟨h3,h4⟩|⟨h3,⟨h4,h5⟩|⟨h4,h5⟩⟩⟩⟩
 ·rw[h2];omega
 ·rw[h3];simp only[Oa,decide_eq_false_iff_not]at h2;omega
 ·rw[h4];omega
 ·rw[h5];simp only[Xo,decide_eq_false_iff_not]at h4;omega
 rw[h5];simp only[Oa,Xo,decide_eq_true_eq]at h2 h4;omega
theorem stE_zero{s:StS}{n:Int}:stE s n=0↔Zn s.clock n=0∧Vr (Zo s.clock) Yj s.lives=0∧Vr (Zq s.clock) Yr s.tals=0:=by
 unfold stE
 by_cases h1:Zn s.clock n=0
 ·rw[if_neg (by simpa using h1)]
  by_cases h2:Vr (Zo s.clock) Yj s.lives=0
  ·rw[if_neg (by simpa using h2)]
   simp[h1,h2]
  rw[if_pos h2]
  simp[h2]
 rw[if_pos h1]
 simp[h1]
theorem Qw{s:StS}{n:Int}:stE s n=0↔OkS n s.clock s.lives s.tals:=by
 rw[stE_zero,listE_zero cmpL_tr,listE_zero cmpT_tr]
 constructor
 ·rintro⟨h1,⟨h2,h3⟩,h4,h5⟩;obtain⟨-,-,g3,-⟩:=Yq h1;refine⟨h1,fun x hx=>?_,fun x hx=>?_,?_,fun t ht=>?_,fun t ht=>(xF.1 (h4 t ht)).2,?_⟩
  ·rw[←g3];exact(xG.1 (h2 x hx)).1
  ·have:=xG.1 (h2 x hx);unfold xU at this;exact⟨this.1.1,this.1.2.1,this.2⟩
  ·exact Vs (fun _ _ _ _ h=>Jw.1 h) h3
  ·rw[←g3];exact(xF.1 (h4 t ht)).1
  exact Vs (fun _ _ _ _ h=>Qq.1 h) h5
 intro h;obtain⟨-,-,g3,-⟩:=Yq h.clock;refine⟨h.clock,⟨fun x hx=>xG.2 ⟨by rw[g3];exact h.lives x hx,(h.bound x hx).2.2⟩,?_⟩,fun t ht=>xF.2 ⟨by rw[g3];exact h.tals t ht,h.full t ht⟩,?_⟩
 ·exact Vs (fun _ _ _ _ h=>Jw.2 h) h.order
 exact Vs (fun _ _ _ _ h=>Qq.2 h) h.ord

theorem xV{α:Type}(f:α→Int):∀(l:List α) (lo hi:Int),l.Pairwise (fun a b=>f a<f b)→(∀x ∈ l,lo≤f x∧f x<hi)→lo≤hi→(l.length:Int)≤hi - lo
 |[],lo,hi,_,_,h=>by simp;omega
 |x::r,lo,hi,hp,hb,h=>by
  obtain⟨h1,h2⟩:=List.pairwise_cons.1 hp;have hx:=hb x (by simp);have:=xV f r (f x+1) hi h2 (fun y hy=>by have:=h1 y hy;have:=hb y (List.mem_cons_of_mem _ hy);omega) (by omega);simp only[List.length_cons];omega
def codeL(x:Zk):Int:=((((if x.set then 1 else 0)*16+x.key)*2001+(x.item+1000))*6+x.author)*1001+x.seq
theorem codeL_lt{a b:Zk}{n:Int}(hn:n≤6)(ha:xU n a)(hb:xU n b)(sa:a.seq≤1000)(sb:b.seq≤1000)(h:Jd a b):codeL a<codeL b:=by
 unfold xU at ha hb;unfold Jd at h;unfold codeL
 rcases h with⟨h1,h2⟩|⟨h1,h2⟩
 ·rw[h1,h2]
  simp
  omega
 rw[h1]
 split <;> omega
theorem OkS.seq_le{n:Int}{c:List Int}{lv:List Zk}{ts:List Tal}(h:OkS n c lv ts){x:Zk}(hx:x ∈ lv):x.seq≤1000:=by
 obtain⟨b1,b2,b3⟩:=h.bound x hx;obtain⟨-,-,-,g4⟩:=Yq h.clock;have:=g4 x.author.toNat (by omega);omega
theorem OkS.few{n:Int}{c:List Int}{lv:List Zk}{ts:List Tal}(h:OkS n c lv ts):lv.length≤400000000∧ts.length≤100:=by
 obtain⟨g1,g2,-,-⟩:=Yq h.clock
 constructor
 ·have hp:lv.Pairwise fun a b=>codeL a<codeL b:=by
   refine Vs (fun a ha b hb hab=>codeL_lt g2 (h.lives a ha) (h.lives b hb) (h.seq_le ha) (h.seq_le hb) hab) h.order
  have:=xV codeL lv 0 400000000 hp (fun x hx=>by
   have h1:=h.lives x hx;have h2:=h.seq_le hx;unfold xU at h1;unfold codeL
   split <;> omega) (by omega)
  omega
 have hp:ts.Pairwise fun a b=>a.key*6+a.author<b.key*6+b.author:=by
  refine Vs (fun a ha b hb hab=>?_) h.ord;have h1:=h.tals a ha;have h2:=h.tals b hb;unfold yS at h1 h2;unfold Jb at hab;omega
 have:=xV (fun t:Tal=>t.key*6+t.author) ts 0 100 hp (fun x hx=>by
  have h1:=h.tals x hx;unfold yS at h1
  omega) (by omega)
 omega
theorem OkS.sums{n:Int}{c:List Int}{lv:List Zk}{ts:List Tal}(h:OkS n c lv ts):∀t ∈ ts,-1000000≤t.sum∧t.sum≤1000000:=by
 intro t ht;have h1:=h.tals t ht;unfold yS at h1;obtain⟨-,-,g3,g4⟩:=Yq h.clock;have:=g4 t.author.toNat (by omega);omega
theorem OkS.fresh{n:Int}{c:List Int}{lv:List Zk}{ts:List Tal}(h:OkS n c lv ts){u:Upd}(hw:Yz u c n=0):∀x,xR u=some x→x ∉ lv:=by
 intro x hx hm;obtain⟨-,hent,-⟩:=(Jo h.clock).1 hw;obtain⟨e1,e2⟩:=Qb hx;obtain⟨-,-,b3⟩:=h.bound x hm;rw[e1,e2,hent]at b3;omega
theorem playLv_append:∀(a b:List Upd) (lv:List Zk),playLv lv (a++b)=playLv (playLv lv a) b
 |[],_,_=>rfl
 |u::a,b,lv=>by rw[List.cons_append,playLv,playLv,playLv_append a b]
theorem playT_append:∀(a b:List Upd) (ts:List Tal),playT ts (a++b)=playT (playT ts a) b
 |[],_,_=>rfl
 |u::a,b,ts=>by rw[List.cons_append,playT,playT,playT_append a b]
end Go.Proofs.YtfhecilhcofboaaGreat
