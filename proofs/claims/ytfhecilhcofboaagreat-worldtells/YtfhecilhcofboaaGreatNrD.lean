/- Logs that are copied and grow by one; the document's own Issue. -/
import Derived.Test.YtfhecilhcofboaaGreatNrC
import Derived.Test.YtfhecilhcofboaaGreatRfP
namespace Go.Proofs.YtfhecilhcofboaaGreat
open Go.RowKit

def OwR(w:World)(B:Nat)(v:Value)(ps:List (Upd×Value)):Prop:=w.ownsRow B 33 5 v ps.length (Um ps)
section
variable {S:Nat→Prop}{b gr:Nat}{w W W':World}{v x1 x2 x3 x4 x5 x6:Value}{zs:List Value}{tz:TypeId}{d:NdS}{ps:List (Upd×Value)}{B:Nat}
theorem OwR.below(h:OwR W B v ps){C:Nat}(hb:Below C W W')(hC:W.heap.size≤C):OwR W' B v ps:=Zp h hb hC
theorem app_log{lv:Value}(ho:OwR w B v [])(hs:Yf 5 encP w lv ps)(h1:∀p ∈ ps,p.2.oneCell'=true)(hn:ps.length≤1000)(hB:B≤w.heap.size):
  ∃v' w',(Builtin.append_ #[28,28] 28 #[v,lv]).run Tryz.prog w=.ok v' w'∧OwR w' B v' ps∧w.grownBy w' v.ownBlock∧Below B w w':=by
 obtain⟨i0,hi,hz0,hz1,hz2⟩:=info_parts Tryz.infoUpd;have hsrc:=hs.srcM (enc:=encP) (P:=Tryz.prog) (fun _=>rfl) (fun p hp q hq=>Ud (h1 p hp) q hq) Tryz.underlying28;obtain⟨v',w',hr,h2,h3⟩:=Jh (P:=Tryz.prog) w B 28 28 28 33 i0 _ 5 56 Tryz.underlying28 hi hz0 hz1 hz2 rfl v 0 [] ho lv ps.length _ hsrc (by unfold maxLen;omega) (by omega) hB;rw[Nat.zero_add,List.nil_append]at h2;exact⟨v',w',hr,h2,h3,(Below.refl B w).grown h3 hB fun k e=>(ho.lt k e).1⟩
theorem app_one{g:Nat}{u:Upd}{sv:Value}(ho:OwR w B v ps)(hb:Box w g (Yn u sv) 33)(h1:sv.oneCell'=true)(hn:ps.length≤1000)(hB:B≤w.heap.size):
  ∃v' w',(Builtin.append_ #[28,28] 28 #[v,.slice (some ⟨g,0,none⟩) 1 1]).run Tryz.prog w=.ok v' w'∧OwR w' B v' (ps++[(u,sv)])∧Below B w w':=by
 obtain⟨i0,hi,hz0,hz1,hz2⟩:=info_parts Tryz.infoUpd;have hsrc:=Src.ofSlice (P:=Tryz.prog) w (size:=5) Tryz.underlying28 ⟨g,0,none⟩ 1 1 (Yn u sv) rfl hb.cellsAt (Ud h1);obtain⟨v',w',hr,h2,h3⟩:=Jh (P:=Tryz.prog) w B 28 28 28 33 i0 _ 5 56 Tryz.underlying28 hi hz0 hz1 hz2 rfl v _ _ ho _ 1 _ hsrc (by unfold maxLen;omega) (by omega) hB;refine⟨v',w',hr,?_,(Below.refl B w).grown h3 hB fun k e=>(ho.lt k e).1⟩;unfold OwR;rw[cellsP_snoc,List.length_append];exact h2
theorem log_one{g:Nat}{u:Upd}{sv:Value}(hb:Box w g (Yn u sv) 33)(hs:Row w sv u.seen):Vh w (.slice (some ⟨g,0,none⟩) 1 1) [u]:=by
 refine⟨some ⟨g,0,none⟩,1,rfl,nlr _,by unfold maxLen;omega,fun i x hi=>⟨g,0,rfl,?_⟩⟩
 match i,hi with
 |0,hi=>
  simp at hi
  subst hi;exact⟨sv,hs,hb.get 0 rfl,hb.get 1 rfl,hb.get 2 rfl,hb.get 3 rfl,hb.get 4 rfl⟩
 |i+1,hi=>simp at hi
theorem Og.snoc{l:List Upd}{sv:Value}{u:Upd}(hp:ps.map (·.1)=l)(hr:∀p ∈ ps,Fix S w fun w=>Row w p.2 p.1.seen)(hs:Fix S w fun w=>Row w sv u.seen)(ho:Off S w W)(h:OwR W B v (ps++[(u,sv)]))(hB:∀k,S k→k<B):Og S W v (l++[u]):=by
 have h':=Og.own (S:=S) h hB fun p hm=>by
  rcases List.mem_append.1 hm with hm|hm
  ·exact(hr p hm).off ho
  rw[List.mem_singleton]at hm;rw[hm];exact hs.off ho
 rw[List.map_append,hp]at h';exact h'
theorem FrN.put(h:FrN S b w W gr zs tz x1 x2 x3 x4 x5 x6 d){g:Nat}(h1:w.heap.size<g)(h2:gr≠g)(h3:g<b)(i:Nat)(y:Value):FrN S b w (W.setCell ⟨g,i,none⟩ y) gr zs tz x1 x2 x3 x4 x5 x6 d:=
 ⟨h.box.away (Nat.ne_of_lt h1),h.res.away h2,h.nd.off ((Off.refl _ W).set (.inr ⟨Nat.le_of_lt h1,h3⟩) i y),h.hb.setCell (Nat.le_of_lt h1) _,fun k hk=>by rw[World.size_setCell];exact h.lt k hk,h.g1,h.g2⟩
theorem step_run{P:Program}{ops:Array Oper}{o:Oper}{a:Act}{K:Act→World→Prop}{Q:Exit→Act→World→Prop}{E:Prop}{s x:Operand}{t tx:TypeId}{y xv v':Value}
  (hr:(Builtin.append_ #[t,tx] o.type #[y,xv]).run P w=.ok v' W) (hK:K (a.put o.dst v') W) (hg:o.guard=none:=by rfl) (hop:o.op=Op.call {callee:=Callee.builtin Builtin.append,args:=#[s,x],argTypes:=#[t,tx]}:=by rfl) (hs:a.eval s=y:=by rfl) (hx:a.eval x=xv:=by rfl):
  if Region.wanted o (yielded ops a.tmps)=true then Oper.wp P o a w K Q else E:=by
 rw[if_pos (by simp[Region.wanted,hg])];unfold Oper.wp
 simp[execOp,hop,resolve,invoke,builtin,hs,hx,hr,Result.andThen]
 exact hK
theorem Off.sub{S':Nat→Prop}(h:Off S w W)(hs:∀k,S k→S' k):Off S' w W:=⟨h.os,h.tape,h.output,h.size,fun k hk hn=>h.block k hk fun hh=>hn (hs k hh)⟩
theorem Off.low(h:Off S w W)(hb:Below w.heap.size W W'):Off S w W':=⟨hb.os.trans h.os,hb.tape.trans h.tape,hb.output.trans h.output,Nat.le_trans h.size hb.size,fun k hk hn=>(hb.block k hk).trans (h.block k hk hn)⟩
theorem Box.off{g:Nat}{cs:List Value}{t:TypeId}(h:Box w g cs t)(ho:Off S w W)(hg:¬S g):Box W g cs t:=(ho.block g h.lt hg).trans h
theorem OwR.off{g:Nat}(h:OwR w B v ps)(ho:Off (fun k=>k=g) w W)(hg:g<B):OwR W B v ps:=Ua h (fun k hk=>by rw[hk];exact hg) ho
theorem st1(W:World)(g i:Nat)(y:Value):∃W',Hid (W.setCell ⟨g,i,none⟩ y=W')∧Off (fun k=>k=g) W W'∧∀{cs:List Value} {t:TypeId},Box W g cs t→Box W' g (cs.set i y) t:=⟨_,rfl,(Off.refl (fun k=>k=g) W).set rfl i y,fun h=>h.set i y⟩
theorem Og.form{l:List Upd}(h:Og S w v l):∃a n c,v=.slice a n c:=by
 obtain⟨a,c,h,-⟩:=h.log;exact⟨a,_,c,h⟩
theorem KnF.form{l:List (List Int)}(h:KnF S w v l):∃a n c,v=.slice a n c:=by
 obtain⟨a,c,h,-⟩:=h.kn;exact⟨a,_,c,h⟩
theorem st1L{y:Value}{l:List Upd}(_:Og S W y l)(g i:Nat):∃W',Hid (W.setCell ⟨g,i,none⟩ y=W')∧Off (fun k=>k=g) W W'∧∀{cs:List Value} {t:TypeId},Box W g cs t→Box W' g (cs.set i y) t:=st1 W g i y
theorem st1K{y:Value}{l:List (List Int)}(_:KnF S W y l)(g i:Nat):∃W',Hid (W.setCell ⟨g,i,none⟩ y=W')∧Off (fun k=>k=g) W W'∧∀{cs:List Value} {t:TypeId},Box W g cs t→Box W' g (cs.set i y) t:=st1 W g i y
theorem st3(W:World)(g:Nat)(y1 y2 y3:Value):∃W',Hid (((W.setCell ⟨g,1,none⟩ y1).setCell ⟨g,2,none⟩ y2).setCell ⟨g,3,none⟩ y3=W')∧Off (fun k=>k=g) W W'∧∀{cs:List Value} {t:TypeId},Box W g cs t→Box W' g (((cs.set 1 y1).set 2 y2).set 3 y3) t:=⟨_,rfl,(((Off.refl (fun k=>k=g) W).set rfl 1 y1).set rfl 2 y2).set rfl 3 y3,fun h=>((h.set 1 y1).set 2 y2).set 3 y3⟩
theorem FrN.done{y1 y2 y3 y4 y5 y6:Value}{d':NdS}(h:FrN S b w W gr zs tz x1 x2 x3 x4 x5 x6 d)(ho:Off (fun k=>k=w.heap.size) W W')(bx:Box W' w.heap.size [.int .i64 d'.self,y1,y2,y3,y4,y5,y6] 31)(nd:NdF (Us S w.heap.size b) W' y1 y2 y3 y4 y5 y6 d'):FrN S b w W' gr zs tz y1 y2 y3 y4 y5 y6 d':=
 ⟨bx,h.res.off ho (Nat.ne_of_gt h.g1),nd,⟨ho.os.trans h.hb.os,ho.tape.trans h.hb.tape,ho.output.trans h.hb.output,Nat.le_trans h.hb.size ho.size,fun k hk=>(ho.block k (Nat.lt_of_lt_of_le hk h.hb.size) (Nat.ne_of_lt hk)).trans (h.hb.block k hk)⟩,fun k hk=>Nat.lt_of_lt_of_le (h.lt k hk) ho.size,h.g1,h.g2⟩
theorem bE{P:Program}{ops:Array Oper}{Q:Exit→Act→World→Prop}{T N:World→Prop}(D:Nat→Bool){G:Nat→Prop}{id:Nat}{a:Act}(hT:∀W,Off G w W→T W)(hN:∀W,Zh w W→N W)(h:∀W,Zh w W→Off G w W→(T W∧N W)→Ve P .any ops Q (fun W=>T W∧N W) T D ops.size (Array.replicate ops.size false) a W)(hm:P.follows .mixedOrders=true:=by kernel_rfl):
  (Code.region id ops true).wp P Q a w:=bD D T (Zi w) (fun W hg=>⟨hT W (zM hg (nlr _)),hN W hg⟩) (fun W hg hS=>h W hg (zM hg (nlr _)) hS) hm
end

set_option maxRecDepth 100000 in
set_option maxHeartbeats 40000000 in
theorem issue_ref{S:Nat→Prop}{v uv:Value}{d:NdS}{u:Upd}(w:World)(h:NdR S w v d)(hu:Jf w uv u)(hS:∀k,S k→k<w.heap.size):
  Calls Tryz.prog 11 #[v,uv] w fun e w'=>∃rv,e=.returned (.tuple #[rv,.int .i64 (Ob d u)])∧NdR S w' rv (Ou d u)∧Below w.heap.size w w':=by
 obtain⟨a1,c1,a2,c2,a3,c3,a4,c4,a5,c5,a6,c6,rfl,hF⟩:=h.form;obtain⟨ua,us,uk,uy,ui⟩:=u;obtain⟨sv,rfl,hsv⟩:=hu;obtain⟨a9,c9,rfl,-⟩:=id hsv;obtain⟨w0,HW,G0,U0,R0,HB0,hs0⟩:=lay3 w [.int .i64 d.self,.slice a1 d.st.clock.length c1,.slice a2 d.st.lives.length c2,.slice a3 d.st.tals.length c3,.slice a4 d.base.length c4,.slice a5 d.log.length c5,.slice a6 d.known.length c6] 31 [.int .i64 ua,.slice a9 us.length c9,.int .i64 uk,.int .i64 uy,.int .i64 ui] 33 [.int .i64 0,.slice none 0 0,.slice none 0 0,.slice none 0 0,.slice none 0 0,.slice none 0 0,.slice none 0 0] 31;have Q0:=Za (FrN.mk G0.out R0.out (hF.more (b:=w.heap.size+1+1+1) HB0.out) HB0.out (mine_lt hS (Nat.le_of_eq hs0.out.symm) (by omega)) (by omega) (by omega));obtain⟨E,HE⟩:∃E,Hid (Ob d ⟨ua,us,uk,uy,ui⟩=E):=⟨_,rfl⟩;obtain⟨X,HX⟩:∃X,Hid (Ou d ⟨ua,us,uk,uy,ui⟩=X):=⟨_,rfl⟩;rw[HE.out,HX.out];unfold Ou ownU at HX;rw[HE.out]at HX;unfold Ob Qi ownU at HE;obtain⟨N,HN⟩:∃N,Hid (Vi d=N):=⟨_,rfl⟩;rw[HN.out]at HE
 simp only at HE HX
 clear h hF G0 R0 HB0 hs0 hS hsv;obtain⟨g0,g1,g2,g3,g4,g5,g6⟩:=Q0.box.c7
 go_enter Tryz.func11,Tryz.ntmps11
 go_upto_region 1 with fail
 rw[HW.out]
 go_wp2_with fail
 refine(Oh _ d _ Q0.nd.node).mono ?_;rintro e w1 ⟨rfl,hb1⟩;rw[HN.out];have Q1:=Za (Q0.step hb1);have U1:=Za (U0.below hb1 (nlr _));clear g0 g1 g2 g3 g4 g5 g6 Q0 hb1 U0
 by_cases hN:N=0
 rotate_left
 ·have hN':(N != 0)=true:=by simp[hN]
  rw[if_neg hN]at HE;obtain rfl:=HE.out;rw[if_neg hN]at HX;obtain rfl:=HX.out;clear hN;obtain⟨r0,e0,r1,e1,r2,e2,r3,e3,r4,e4,r5,e5,r6,e6⟩:=Q1.res.seven
  go_wp2_with fail
  obtain⟨hR,hV,hB⟩:=yN (S:=S) (d:=Yu) Q1.res NdF.none Q1.hb (by omega) Q1.g2;exact bodyPost_ret (Zc rfl _ _ (w.heap.size+1+1) 31 _ (0,0) _ rfl hR Tryz.underlying31 rfl Tryz.sizeNode) rfl ⟨_,rfl,⟨_,_,_,_,_,_,rfl,hV⟩,hB⟩
 have hN':(N != 0)=false:=by simp[hN]
 have hNz:Vi d=0:=by rw[HN.out];exact hN
 rw[if_pos hN]at HE;have HF:=Za (yF hNz);have HO:=Za (Vk.1 hNz);clear hNz hN;have hkl:=Q1.nd.log.log.len_le;obtain⟨g0,g1,g2,g3,g4,g5,g6⟩:=Q1.box.c7
 by_cases q0:300≤d.log.length
 ·rw[if_pos q0]at HE;obtain rfl:=HE.out;rw[if_neg (by decide)]at HX;obtain rfl:=HX.out;have q0':(300:Int)≤(d.log.length:Int):=by omega
  obtain⟨r0,e0,r1,e1,r2,e2,r3,e3,r4,e4,r5,e5,r6,e6⟩:=Q1.res.seven
  go_wp2_with fail
  obtain⟨hR,hV,hB⟩:=yN (S:=S) (d:=Yu) Q1.res NdF.none Q1.hb (by omega) Q1.g2;exact bodyPost_ret (Zc rfl _ _ (w.heap.size+1+1) 31 _ (0,0) _ rfl hR Tryz.underlying31 rfl Tryz.sizeNode) rfl ⟨_,rfl,⟨_,_,_,_,_,_,rfl,hV⟩,hB⟩
 rw[if_neg q0]at HE;have q0':¬(300:Int)≤(d.log.length:Int):=by omega
 have HK6:=Za fun w' (hg:Zh w1 w')=>(And.intro (Yi hg g0) (Yi hg g1));obtain⟨u0,u1,u2,u3,u4⟩:=U1.c5
 go_upto_region 6 with fail
 clear g0 g1 g2 g3 g4 g5 g6 u0 u1 u2 u3 u4;refine bD (fun _=>false) (fun _=>True) (Zi _) HK6.out fun wd hcd hHeld=>?_;refine yD 0 (.pointer (some ⟨w.heap.size,0,none⟩)) ?_;refine yD 1 (.int .i64 d.self) ?_;refine yD 2 (.pointer (some ⟨w.heap.size,1,none⟩)) ?_;refine yD 3 (.pointer (some ⟨w.heap.size,1,none⟩)) ?_;refine yD 4 (.slice a1 d.st.clock.length c1) ?_;refine yD 5 (.pointer (some ⟨w.heap.size+1,0,none⟩)) ?_;refine oD 6 fun K hK=>?_;have v0:=(U1.below hcd (nlr _)).get 0 rfl;have v1:=(U1.below hcd (nlr _)).get 1 rfl;have f0:=(U1.below hcd (nlr _)).free 0;have f1:=(U1.below hcd (nlr _)).free 1;go_simp;have hH_6:=And.intro (Xs (g':=w.heap.size+1) (j:=0) (v:=.int .i64 d.self) (by omega) hHeld.1) (Xs (g':=w.heap.size+1) (j:=0) (v:=.int .i64 d.self) (by omega) hHeld.2);refine kS hK hH_6 ?_;clear hK K;refine yD 7 (.pointer (some ⟨w.heap.size+1,1,none⟩)) ?_;refine oD 8 fun K hK=>?_;go_simp;have hH_b:=And.intro (Xs (g':=w.heap.size+1) (j:=1) (v:=.slice a1 d.st.clock.length c1) (by omega) hH_6.1) (Xs (g':=w.heap.size+1) (j:=1) (v:=.slice a1 d.st.clock.length c1) (by omega) hH_6.2);refine kS hK hH_b ?_;clear hK K;refine eD ?_;have Q2:=Q1.step hcd;have U2:=U1.below hcd (nlr _);have Q3:=Za ((Q2.put (g:=w.heap.size+1) (by omega) (by omega) (by omega) 0 (.int .i64 d.self)).put (g:=w.heap.size+1) (by omega) (by omega) (by omega) 1 (.slice a1 d.st.clock.length c1));have U3:=Za ((U2.set 0 (.int .i64 d.self)).set 1 (.slice a1 d.st.clock.length c1));obtain⟨w3,HW3⟩:∃w3,Hid ((wd.setCell ⟨w.heap.size+1,0,none⟩ (.int .i64 d.self)).setCell ⟨w.heap.size+1,1,none⟩ (.slice a1 d.st.clock.length c1)=w3):=⟨_,rfl⟩;rw[HW3.out]at Q3 U3 ⊢;replace U3:Hid (Box w3 (w.heap.size+1) [.int .i64 d.self,.slice a1 d.st.clock.length c1,.int .i64 uk,.int .i64 uy,.int .i64 ui] 33):=U3;clear Q2 U2 Q1 U1 hHeld HK6 hcd v0 v1 f0 f1;obtain⟨g0,g1,g2,g3,g4,g5,g6⟩:=Q3.box.c7;obtain⟨u0,u1,u2,u3,u4⟩:=U3.c5;obtain⟨w4,HW4,B4,HB4,-⟩:=xW w3 [.int .i64 d.self,.slice a1 d.st.clock.length c1,.int .i64 uk,.int .i64 uy,.int .i64 ui] 33;have Q4:=Za (Q3.step HB4.out);have U4:=Za (U3.below HB4.out (nlr _));have L4:=Za (log_one (u:=⟨d.self,d.st.clock,uk,uy,ui⟩) B4.out (Jq Q4.nd.st).here)
 go_wp2_with (rw[HW4.out])
 refine(play_ref4 _ _ d.st [⟨d.self,d.st.clock,uk,uy,ui⟩] _ Q4.nd.st.here L4.out).mono ?_;rintro e w5 ⟨rv,rfl,ho5,hb5⟩;obtain⟨E1,HE1⟩:∃E1,Hid (Ol d.st [⟨d.self,d.st.clock,uk,uy,ui⟩]=E1):=⟨_,rfl⟩;obtain⟨A1,HA1⟩:∃A1,Hid (playA d.st [⟨d.self,d.st.clock,uk,uy,ui⟩]=A1):=⟨_,rfl⟩;obtain⟨P,HP⟩:∃P,Hid (yB d.st [⟨d.self,d.st.clock,uk,uy,ui⟩]=P):=⟨_,rfl⟩;rw[HE1.out,HA1.out];rw[HE1.out]at HE;rw[HP.out]at ho5;have hst:=ho5.fix (S:=Us S w.heap.size (w.heap.size+1+1+1)) fun k hk=>by have:=Q4.lt k hk;omega
 obtain⟨cv,lv,tv,rfl,oc,ol,ot⟩:=id ho5;obtain⟨s1,t1,rfl,-⟩:=id oc.row;obtain⟨s2,t2,rfl,-⟩:=id (Zl Ze ol);obtain⟨s3,t3,rfl,-⟩:=id (Zl Zg ot);obtain⟨w6,HW6,S6,F6,HB6,hs6⟩:=lay2 w5 [.slice s1 P.clock.length t1,.slice s2 P.lives.length t2,.slice s3 P.tals.length t3] 27 [.int .i64 E1,.int .i64 A1] 65;have HLT:=Za (Q4.step hb5).res.lt;have Q6:=Za ((Q4.step hb5).step HB6.out);have U6:=Za ((U4.below hb5 (nlr _)).below HB6.out (nlr _));have HST:=Za (hst.off (zM HB6.out (nlr _)));clear g0 g1 g2 g3 g4 g5 g6 u0 u1 u2 u3 u4 Q3 U3 Q4 U4 L4 B4 hst ho5 oc ol ot hb5;have f0:=F6.get 0 rfl
 go_upto_region 8 with fail
 rw[HW6.out];obtain rfl:=HE.out
 by_cases hE1:E1=0
 rotate_left
 ·have hE1':(E1 != 0)=true:=by simp[hE1]
  rw[if_neg hE1]at HX;obtain rfl:=HX.out;clear hE1;have HK9:=Za fun w' (hg:Zh w6 w')=>Yi hg f0
  go_upto_region 9 with fail
  clear f0;refine bD (fun _=>false) (fun _=>True) (Zi _) HK9.out fun wd hcd hHeld=>?_;refine yD 0 (.agg #[.int .i64 0,.slice none 0 0,.slice none 0 0,.slice none 0 0,.slice none 0 0,.slice none 0 0,.slice none 0 0]) ?_;refine yD 1 (.pointer (some ⟨w5.heap.size+1,0,none⟩)) ?_;refine yD 2 (.int .i64 E1) ?_;refine oD 3 fun K hK=>?_;have Q7:=Za (Q6.step hcd);have hne:w.heap.size+1+1≠w5.heap.size+1:=by have:=HLT.out;omega
  obtain⟨r0,e0,r1,e1,r2,e2,r3,e3,r4,e4,r5,e5,r6,e6⟩:=Q7.res.seven;go_simp;have hH_3:=Xs (j:=6) (v:=.slice none 0 0) hne (Xs (j:=5) (v:=.slice none 0 0) hne (Xs (j:=4) (v:=.slice none 0 0) hne (Xs (j:=3) (v:=.slice none 0 0) hne (Xs (j:=2) (v:=.slice none 0 0) hne (Xs (j:=1) (v:=.slice none 0 0) hne (Xs (j:=0) (v:=.int .i64 0) hne hHeld))))));refine kS hK hH_3 ?_;clear hK K;refine oD 4 fun K hK=>?_;go_simp;have hH_a:=hH_3;refine kS hK hH_a ?_;clear hK K;refine eD ?_
  go_wp2_with fail
  obtain⟨hR,hV,hB⟩:=yN (S:=S) (d:=Yu) Q7.res NdF.none Q7.hb (by omega) Q7.g2;exact bodyPost_ret (Zc rfl _ _ (w.heap.size+1+1) 31 _ (0,0) _ rfl hR Tryz.underlying31 rfl Tryz.sizeNode) rfl ⟨_,rfl,⟨_,_,_,_,_,_,rfl,hV⟩,hB⟩
 have hE1':(E1 != 0)=false:=by simp[hE1]
 rw[if_pos hE1]at HX;have HE0:=Za hE1;clear hE1;obtain⟨ps,hps,hsl,hrs⟩:=Q6.nd.log;have hpl:ps.length=d.log.length:=by rw[←hps,List.length_map]
 have HFEW:Hid (ps.length≤1000):=by unfold Hid;omega
 have HONE:=Za fun p hp=>(hrs p hp).here.one;have HGM:Hid (∀k,k=w.heap.size→Us S w.heap.size (w.heap.size+1+1+1) k):=fun k hk=>.inr (by omega);have hgd:=Q6.box.lt;have HT:=Za fun W (ho:Off (fun k=>k=w.heap.size) w6 W)=>And.intro (U6.off ho (by omega)).c5 (S6.off ho (by have:=HLT.out;omega)).c3;have HSL:=Za fun W (ho:Off (fun k=>k=w.heap.size) w6 W)=>hsl W (ho.sub HGM.out);have HC:=Za fun W (ho:Off (fun k=>k=w.heap.size) w6 W)=>set_fix W (Q6.nd.kn.off (ho.sub HGM.out)) (Jq (HST.off (ho.sub HGM.out))) HO.s0 (by have:=HO.s1;have:=HO.kl;omega) (by have:=HF.kl;omega) fun k hk=>Nat.lt_of_lt_of_le (Q6.lt k hk) ho.size;have HPS:=Za hps;have HRS:=Za hrs;have HCK:=Za (Jq Q6.nd.st);have HLB:=Za Q6.lt;clear hps hsl hrs hpl
 go_upto_region 10 with fail
 clear f0;refine bE (fun i=>i==18||i==20) HT.out (fun W hg=>And.intro ((Q6.box.below hg (nlr _)).get 0 rfl) (And.intro ((Q6.box.below hg (nlr _)).get 5 rfl) ((Q6.box.below hg (nlr _)).get 6 rfl))) fun W hg hO hS=>?_;have bx:=Q6.box.below hg (nlr _);refine yD 0 (.agg #[.slice s1 P.clock.length t1,.slice s2 P.lives.length t2,.slice s3 P.tals.length t3]) ?_;refine yD 2 (.pointer (some ⟨w.heap.size,5,none⟩)) ?_;refine yD 3 (.slice a5 d.log.length c5) ?_;refine yD 5 (.agg #[.int .i64 d.self,.slice a1 d.st.clock.length c1,.int .i64 uk,.int .i64 uy,.int .i64 ui]) ?_;refine yD 8 (.pointer (some ⟨w.heap.size,6,none⟩)) ?_;refine yD 9 (.slice a6 d.known.length c6) ?_;refine yD 10 (.pointer (some ⟨w.heap.size,0,none⟩)) ?_;refine yD 11 (.int .i64 d.self) ?_;refine yT 12 (.pointer (some ⟨w5.heap.size,0,none⟩)) ?_;refine yT 13 (.slice s1 P.clock.length t1) ?_;refine yD 15 (.pointer (some ⟨w.heap.size,1,none⟩)) ?_
 repeat'
  first
  |refine eD ?_ (by decide+kernel)
  |refine yT 17 (.pointer (some ⟨w.heap.size,5,none⟩)) ?_ (hs:=by decide+kernel)
  |refine yU 17 (.pointer (some ⟨w.heap.size,5,none⟩)) ?_
  |refine yT 19 (.pointer (some ⟨w.heap.size,6,none⟩)) ?_ (hs:=by decide+kernel)
  |refine yU 19 (.pointer (some ⟨w.heap.size,6,none⟩)) ?_
  |refine aR (cR 1 ?_ (cR 4 ?_ (cR 6 ?_ (cR 7 ?_ (cR 14 ?_ (cR 16 ?_ (cR 18 ?_ (cR 20 ?_ nR))))))))
  |exact fun _ h=>absurd h (by decide+kernel)
  | (refine fun(_:Tg 1) _ K hK=>?_
     go_simp;have o1:=World.ownsRow_lit (base:=w6.heap.size) (e:=33) (size:=5) W #[] 0 hO.size (Nat.zero_le _) rfl;have zz:=hO.size;obtain⟨v1,hv1⟩:∃v1,Hid (Value.slice (some ⟨W.heap.size,0,none⟩) 0 0=v1):=⟨_,rfl⟩;obtain⟨W,HW,-,hb,hs⟩:=xW W [] 33;rw[HW.out,hv1.out]at o1 ⊢;replace o1:OwR W w6.heap.size _ []:=o1;have zn:=Nat.lt_of_lt_of_le (Nat.lt_succ_self _) (Nat.le_of_eq hs.out.symm);have bx:=bx.below hb.out (nlr _)
     try have b6:=b6.below hb.out (nlr _)
     have hO:=hO.trans (zM hb.out (nlr _));have hS:=And.intro (HT.out _ hO) (And.intro (bx.get 0 rfl) (And.intro (bx.get 5 rfl) (bx.get 6 rfl)))
     refine kS hK hS ?_)
  | (refine fun(_:Tg 4) _ K hK=>?_
     obtain⟨v4,W,hrun,o4,hgr,hbl⟩:=app_log o1 (HSL.out _ hO) HONE.out HFEW.out hO.size;refine step_run hrun ?_;clear hrun
     try have b6:=Box.grownN b6 hgr (by rw[←hv1.out];intro e;simp[Value.ownBlock]at e;omega)
     have zc:=hbl.size;have bx:=bx.low hbl hgd;have hO:=hO.low hbl;have hS:=And.intro (HT.out _ hO) (And.intro (bx.get 0 rfl) (And.intro (bx.get 5 rfl) (bx.get 6 rfl)))
     refine kS hK hS ?_)
  | (refine fun(_:Tg 6) _ K hK=>?_
     go_simp;have c6:=hO.size;obtain⟨W,HW,b6,hb,hs⟩:=xW W [.int .i64 d.self,.slice a1 d.st.clock.length c1,.int .i64 uk,.int .i64 uy,.int .i64 ui] 33;rw[HW.out];have zn:=Nat.lt_of_lt_of_le (Nat.lt_succ_self _) (Nat.le_of_eq hs.out.symm);have b6:=b6.out;have bx:=bx.below hb.out (nlr _)
     try have o1:=o1.below hb.out (nlr _)
     try have o4:=o4.below hb.out (nlr _)
     have hO:=hO.trans (zM hb.out (nlr _));have hS:=And.intro (HT.out _ hO) (And.intro (bx.get 0 rfl) (And.intro (bx.get 5 rfl) (bx.get 6 rfl)))
     refine kS hK hS ?_)
  | (refine fun(_:Tg 7) _ K hK=>?_
     obtain⟨v7,W,hrun,o7,hbl⟩:=app_one (u:=⟨d.self,d.st.clock,uk,uy,ui⟩) o4 b6 rfl HFEW.out hO.size;refine step_run hrun ?_;clear hrun;have bx:=bx.low hbl hgd;have hO:=hO.low hbl;have L:=Og.snoc HPS.out HRS.out HCK.out (hO.sub HGM.out) o7 HLB.out;obtain⟨aV,nV,cV,rfl⟩:=L.form;have hS:=And.intro (HT.out _ hO) (And.intro (bx.get 0 rfl) (And.intro (bx.get 5 rfl) (bx.get 6 rfl)))
     refine kS hK hS ?_)
  | (refine fun(_:Tg 14) _ K hK=>?_
     go_simp;refine(HC.out _ hO).mono ?_;rintro e W ⟨v14,rfl,Kf,hb⟩;obtain⟨aK,nK,cK,rfl⟩:=Kf.form;go_simp;have bx:=bx.below hb (nlr _);have hO:=hO.trans (zM hb (nlr _));have L:=L.off (zM hb (nlr _))
     first
     |(have hS:=And.intro (HT.out _ hO) (And.intro (bx.get 0 rfl) (And.intro (bx.get 5 rfl) (bx.get 6 rfl)));refine kS hK hS ?_)
     |(have hT:=HT.out _ hO;refine kD hK hT ?_))
  | (refine fun(_:Tg 16) _ K hK=>?_
     have r1:=bx.get 1 rfl;have r2:=bx.get 2 rfl;have r3:=bx.get 3 rfl;have e1:=bx.free 1;have e2:=bx.free 2;have e3:=bx.free 3;go_simp;obtain⟨W,HW,hof,hbx⟩:=st3 W w.heap.size (.slice s1 P.clock.length t1) (.slice s2 P.lives.length t2) (.slice s3 P.tals.length t3);rw[HW.out];have bx:=hbx bx;have zs:=hof.size;have hO:=hO.trans hof
     try have o1:=o1.off hof hgd
     try have o4:=o4.off hof hgd
     try have b6:=b6.off hof (by have:=c6;omega)
     try have L:=L.off (hof.sub HGM.out)
     try have Kf:=Kf.off (hof.sub HGM.out)
     try have Rf:=Rf.off (hof.sub HGM.out)
     have hS:=And.intro (HT.out _ hO) (And.intro (bx.get 0 rfl) (And.intro (bx.get 5 rfl) (bx.get 6 rfl)))
     refine kS hK hS ?_)
  | (refine fun(_:Tg 18) _ K hK=>?_
     have r1:=bx.get 5 rfl;have e1:=bx.free 5;go_simp;obtain⟨W,HW,hof,hbx⟩:=st1L L w.heap.size 5;rw[HW.out];have bx:=hbx bx;have hO:=hO.trans hof
     try have o1:=o1.off hof hgd
     try have o4:=o4.off hof hgd
     try have b6:=b6.off hof (by have:=c6;omega)
     try have L:=L.off (hof.sub HGM.out)
     try have Kf:=Kf.off (hof.sub HGM.out)
     try have Rf:=Rf.off (hof.sub HGM.out)
     have hT:=HT.out _ hO
     refine kD hK hT ?_)
  | (refine fun(_:Tg 20) _ K hK=>?_
     have r1:=bx.get 6 rfl;have e1:=bx.free 6;go_simp;obtain⟨W,HW,hof,hbx⟩:=st1K Kf w.heap.size 6;rw[HW.out];have bx:=hbx bx;have hO:=hO.trans hof
     try have o1:=o1.off hof hgd
     try have o4:=o4.off hof hgd
     try have b6:=b6.off hof (by have:=c6;omega)
     try have L:=L.off (hof.sub HGM.out)
     try have Kf:=Kf.off (hof.sub HGM.out)
     try have Rf:=Rf.off (hof.sub HGM.out)
     have hT:=HT.out _ hO
     refine kD hK hT ?_)
 all_goals
  obtain rfl:(⟨d.self,P,d.base,d.log++[⟨d.self,d.st.clock,uk,uy,ui⟩],d.known.set d.self.toNat P.clock⟩:NdS)=X:=by rw[←HX.out,←HP.out];rfl
  have Q8:=Za (Q6.done (d':=⟨d.self,P,d.base,d.log++[⟨d.self,d.st.clock,uk,uy,ui⟩],d.known.set d.self.toNat P.clock⟩) hO bx ⟨HST.off (hO.sub HGM.out),Q6.nd.base.off (hO.sub HGM.out),L,Kf⟩);obtain⟨g0,g1,g2,g3,g4,g5,g6⟩:=Q8.box.c7;obtain⟨r0,e0,r1,e1,r2,e2,r3,e3,r4,e4,r5,e5,r6,e6⟩:=Q8.res.seven
  go_wp2_with fail
  obtain⟨hR,hV,hB⟩:=yN Q8.res Q8.nd Q8.hb (by omega) Q8.g2;exact bodyPost_ret (Zc rfl _ _ (w.heap.size+1+1) 31 _ (0,0) _ rfl hR Tryz.underlying31 rfl Tryz.sizeNode) rfl ⟨_,by rw[HE0.out];rfl,⟨_,_,_,_,_,_,rfl,hV⟩,hB⟩
end Go.Proofs.YtfhecilhcofboaaGreat
