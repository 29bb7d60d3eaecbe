/- world: one tells another one. -/
import Derived.Test.YtfhecilhcofboaaGreatWdA
import Derived.Test.YtfhecilhcofboaaGreatNdZ
import Derived.Test.YtfhecilhcofboaaGreatWdPure
import Derived.Test.YtfhecilhcofboaaGreatNrC
namespace Go.Proofs.YtfhecilhcofboaaGreat
open Go.RowKit

theorem Tryz.infoPcl:(Tryz.prog.info? 35).map (fun i=>(i.zero,i.size,i.bytes))=some (some (.agg #[.bool false,.slice none 0 0,.slice none 0 0,.slice none 0 0,.slice none 0 0,.slice none 0 0]),6,128):=by kernel_rfl
theorem step_append_mid{P:Program}{ops:Array Oper}{o:Oper}{a:Act}{w:World}{K:Act→World→Prop}{Q:Exit→Act→World→Prop}{E:Prop}
  (hg:o.guard=none) (s x:Operand) (t tx:TypeId) (hop:o.op=Op.call {callee:=Callee.builtin Builtin.append,args:=#[s,x],argTypes:=#[t,tx]})
  (base:Nat) (e:TypeId) (i:TypeInfo) (z:Value) (size bytes:Nat) (h1:P.underlying t=some (.slice e)) (h2:P.info? e=some i) (h3:i.zero=some z) (h4:i.size=size) (h5:i.bytes=bytes) (h6:z.cells.size=size)
  (v:Value) (n:Nat) (xs:List Value) (hs:a.eval s=v) (hown:zW w base e size v n xs)
  (xv:Value) (hx:a.eval x=xv) (m:Nat) (news:List Value) (hsrc:Src P size tx xv m news w) (hm:1≤m)
  (b1:n+m≤maxLen) (b2:(n+m)*bytes≤140737488355328) (hb:base≤w.heap.size)
  (hK:∀v' w',zW w' base e size v' (n+m) (xs++news)→w.grownBy w' (Zx v)→(Zx v'=Zx v∨Zx v'=some w.heap.size)→K (a.put o.dst v') w'):
  if Region.wanted o (yielded ops a.tmps)=true then Oper.wp P o a w K Q else E:=by
 have hw:Region.wanted o (yielded ops a.tmps)=true:=by simp[Region.wanted,hg]
 rw[if_pos hw];obtain⟨v',w',hrun,r1,r2,r3⟩:=run_append_mid (P:=P) w base t tx o.type e i z size bytes h1 h2 h3 h4 h5 h6 v n xs hown xv m news hsrc hm b1 b2 hb;unfold Oper.wp
 simp[execOp,hop,resolve,invoke,builtin,hs,hx,hrun,Result.andThen]
 exact hK v' w' r1 r2 r3
theorem GoX.push{w w8:World}{B g:Nat}{W:WdS}{gn gw:Nat}{gr:Nat→Nat}{rv:Nat→List Value}{cv v8:Value}{a b:Nat}{p:Pcl}{x0 x1 x2 x3 x4 x5:Value}(h:GoX w B g W gn gw gr rv cv)(ha:a<W.nodes.length)(hb:b<W.nodes.length)(hp:Uq w B (.agg #[x0,x1,x2,x3,x4,x5]) p)(hB:B≤w.heap.size)
  (qs:List (Pcl×List Value)) (h2:qs.map (·.1)=Oi W a b) (h3:∀q ∈ qs,∃x0 x1 x2 x3 x4 x5,q.2=[x0,x1,x2,x3,x4,x5]∧Uq w B (.agg #[x0,x1,x2,x3,x4,x5]) q.1)
  (hm:zW w8 B 35 6 v8 (qs.length+1) (qs.flatMap (·.2)++[x0,x1,x2,x3,x4,x5])) (hg:w.grownBy w8 (Zx ((rv a).getD b (.slice none 0 0)))) (hv:Zx v8=Zx ((rv a).getD b (.slice none 0 0))∨Zx v8=some w.heap.size):
  (∃rv',GoX (w8.setCell ⟨gr a,b,none⟩ v8) B g (Qy W a b (Oi W a b++[p])) gn gw gr rv' cv)∧Keeps Xi w (w8.setCell ⟨gr a,b,none⟩ v8)∧(∀w0,Below B w0 w→Below B w0 (w8.setCell ⟨gr a,b,none⟩ v8))∧Box (w8.setCell ⟨gr a,b,none⟩ v8) g [.slice (some ⟨gn,0,none⟩) W.nodes.length W.nodes.length,.slice (some ⟨gw,0,none⟩) W.nodes.length W.nodes.length,cv] 95∧Keeps [35] w w8∧w8.frozen? ⟨gr a,b,none⟩=false:=by
 obtain⟨hx,hk⟩:=h.x.grow ha hb hg
 have hp8:=PwO.snoc (w':=w8) (B:=B) (v':=v8) qs h2 (fun q hq=>by
  obtain⟨y0,y1,y2,y3,y4,y5,e,hh⟩:=h3 q hq
  exact⟨y0,y1,y2,y3,y4,y5,e,hk.pcl Ux hh⟩) (hk.pcl Ux hp) hm
 obtain⟨hw,hk2⟩:=hx.putW ha hb (.inr rfl) hp8 (fun c d k hc hd hcd hk' hk2=>by
  have hpc:=h.x.pcl c d hc hd (by simp)
  rcases hv with hv|hv
  ·rw[hv]at hk';obtain⟨e1,e2⟩:=h.x.apart c d a b k hc hd ha hb (by simp) (by simp) hk2 hk';exact hcd ⟨e1,e2⟩
  rw[hv]at hk';simp only[Option.some.injEq]at hk';have:=(hpc.lt hk2).2.1
  omega)
 have hbx:=hk2.box (hk.box h.box (by decide)) (by decide);refine⟨⟨_,⟨hbx,h.bg,hw⟩⟩,(hk.more (by decide)).trans (hk2.more (by decide)),fun w0 h0=>?_,hbx,hk,(hx.rows a ha).2.1.free b⟩;have hrow:=(h.x.rows a ha).1;have hbl:∀k,Zx ((rv a).getD b (.slice none 0 0))=some k→B≤k:=fun k hk'=>((h.x.pcl a b ha hb (by simp)).lt hk').1
 exact(h0.grown hg hB hbl).setCell (p:=⟨gr a,b,none⟩) hrow v8

set_option maxRecDepth 100000 in
set_option maxHeartbeats 8000000 in
theorem send_w(w:World)(B g:Nat)(W:WdS)(gn gw:Nat)(gr:Nat→Nat)(rv:Nat→List Value)(cv:Value)(a b:Nat)(h:GoX w B g W gn gw gr rv cv)(hB:B≤w.heap.size)(ha:a<W.nodes.length)(hb:b<W.nodes.length):
  Calls Tryz.prog 100 #[.pointer (some ⟨g,0,none⟩),.int .i64 a,.int .i64 b] w fun e w'=>e=.returned (.int .i64 (wsendE W a b))∧(∃rv',GoX w' B g (wsendX W a b) gn gw gr rv' cv)∧Keeps Xi w w'∧Below B w w':=by
 have hn:W.nodes.length≤6:=h.x.few;have hal':(a:Int)<(W.nodes.length:Int):=by omega
 have hbl':(b:Int)<(W.nodes.length:Int):=by omega
 obtain⟨av,c,e0,hpw,cw,cr,fr,hgB,hgs,hwy⟩:=h.way ha hb;obtain⟨ps,HPS⟩:∃ps,Hid (Oi W a b=ps):=⟨_,rfl⟩;rw[HPS.out]at e0 hpw cr hwy;have hplen:=hpw.len_le;have HG:=Za h;have HE0:=Za e0;have HPW:=Za hpw;have g1:=h.box.get 1 rfl;have g0:=h.box.get 0 rfl;obtain⟨E,HE⟩:∃E,Hid (wsendE W a b=E):=⟨_,rfl⟩;obtain⟨X,HX⟩:∃X,Hid (wsendX W a b=X):=⟨_,rfl⟩;rw[HE.out,HX.out];clear h e0 hpw hwy fr
 by_cases hl:20≤ps.length
 ·have hl1:(ps.length:Int)≥20:=by omega
  have hl2:(20:Int)≤(ps.length:Int):=by omega
  have hE:5=E:=by rw[←HE.out];unfold wsendE;rw[HPS.out,if_pos hl]
  have hX:W=X:=by rw[←HX.out];unfold wsendX;rw[if_neg (by rw[HE.out,←hE];decide)]
  subst hE;subst hX;clear hl
  go_enter Tryz.func100,Tryz.ntmps100
  go_wp2_with fail
  go_ret
  exact⟨rfl,⟨_,HG.out⟩,Keeps.refl _ _,Below.refl _ _⟩
 have hl1:¬((ps.length:Int)≥20):=by omega
 have hl2:¬((20:Int)≤(ps.length:Int)):=by omega
 have HLL:=Za hl;have hE:Jj (Xa W a) b=E:=by rw[←HE.out];unfold wsendE;rw[HPS.out,if_neg hl]
 have HEO:=Za hE;clear hE hl
 have hat:W.nodes[a]? =some (Xa W a):=by
  unfold Xa;rw[Int.toNat_natCast,List.getD_eq_getElem?_getD,List.getElem?_eq_getElem ha];rfl
 obtain⟨x0,x1,x2,x3,x4,x5,x6,hno,d0,d1,d2,d3,d4,d5,d6⟩:=HG.x.nodes.at hat;have HNO:=Za hno;obtain⟨p,HP⟩:∃p,Hid (sendX (Xa W a) b=p):=⟨_,rfl⟩;clear hno
 go_enter Tryz.func100,Tryz.ntmps100
 go_wp2_with fail
 refine(send_node _ (Xa W a) b w HNO.node).mono ?_;rintro e w1 ⟨v1,rfl,ho1,hb1⟩;rw[HEO.out];rw[HP.out]at ho1;obtain⟨pa1,pc1,pa2,pc2,pa3,pc3,pa4,pc4,pa5,pc5,hv1,-⟩:=ho1.pcl.form;subst hv1;have hbp:=bpl w1 (.cells #[.bool p.whole,.slice pa1 p.st.clock.length pc1,.slice pa2 p.st.lives.length pc2,.slice pa3 p.st.tals.length pc3,.slice pa4 p.ups.length pc4,.slice pa5 p.clock.length pc5] 35);have hb2:=Zb hb1 hbp;have G2:=HG.below hb2;have N2:=(ho1.base (C:=B) (by omega)).below hbp (nlr _);have X2:=Box.new w1 [.bool p.whole,.slice pa1 p.st.clock.length pc1,.slice pa2 p.st.lives.length pc2,.slice pa3 p.st.tals.length pc3,.slice pa4 p.ups.length pc4,.slice pa5 p.clock.length pc5] 35;have cr2:=(hb2.cell (p:=⟨gr a,b,none⟩) (World.block_lt_of_cell? w _ cr)).trans cr;have cw2:=(hb2.cell (p:=⟨gw,a,none⟩) (World.block_lt_of_cell? w _ cw)).trans cw;obtain⟨W2,HW2⟩:∃W2,Hid (w1.alloc (.cells #[.bool p.whole,.slice pa1 p.st.clock.length pc1,.slice pa2 p.st.lives.length pc2,.slice pa3 p.st.tals.length pc3,.slice pa4 p.ups.length pc4,.slice pa5 p.clock.length pc5] 35)=W2):=⟨_,rfl⟩;rw[HW2.out]at hb2 G2 N2 X2 cr2 cw2;have HG2:=Za G2;have HN2:=Za N2;have HX2:=Za X2;have HCR:=Za cr2;have HCW:=Za cw2;have HB2:Hid (Below B w W2):=hb2.mono hB;have HK2:Hid (Keeps Xi w W2):=Keeps.below hb2;have hs2:Hid (B≤W2.heap.size):=by have:=hb2.size;unfold Hid;omega
 have hs1:Hid (w.heap.size≤w1.heap.size):=hb1.size;have hgw:Hid (gr a<w.heap.size):=hgs;clear g0 g1 d0 d1 d2 d3 d4 d5 d6 G2 N2 X2 hb2 hbp hb1 ho1 cr cw cr2 cw2
 by_cases he:E=0
 ·subst he;have HXX:Hid (Qy W a b (ps++[p])=X):=by unfold Hid;rw[←HX.out];unfold wsendX;rw[if_pos HE.out,HPS.out,HP.out]
  obtain⟨i0,hi,hz0,hz1,hz2⟩:=info_parts Tryz.infoPcl
  go_upto_region 5 with fail
  rw[HW2.out];have HK:=Za fun w' (hg:Zh W2 w')=>And.intro ((HG2.box.below hg (nlr _)).get 1 rfl) (And.intro ((hg.cell (p:=⟨gw,a,none⟩) (World.block_lt_of_cell? W2 _ HCW.out)).trans HCW.out) (HX2.below hg (nlr _)).c6);refine rgn HK.out fun wd hgd hHeld=>?_;refine ty 0 (.pointer (some ⟨g,0,none⟩)) ?_;refine ty 1 (.pointer (some ⟨g,0,none⟩)) ?_;refine ty 2 (.pointer (some ⟨g,0,none⟩)) ?_;refine ty 3 (.pointer (some ⟨g,1,none⟩)) ?_;refine ty 4 (.slice (some ⟨gw,0,none⟩) W.nodes.length W.nodes.length) ?_;refine ty 5 (.int .i64 (a:Int)) ?_;refine ty 6 (.pointer (some ⟨gw,a,none⟩)) ?_;refine ty 7 (.slice (some ⟨gr a,0,none⟩) W.nodes.length W.nodes.length) ?_;refine ty 8 (.int .i64 (b:Int)) ?_;refine ty 9 (.pointer (some ⟨g,0,none⟩)) ?_;refine ty 10 (.pointer (some ⟨g,0,none⟩)) ?_;refine ty 11 (.pointer (some ⟨g,0,none⟩)) ?_;refine ty 12 (.pointer (some ⟨g,1,none⟩)) ?_;refine ty 13 (.slice (some ⟨gw,0,none⟩) W.nodes.length W.nodes.length) ?_;refine ty 14 (.int .i64 (a:Int)) ?_;refine ty 15 (.pointer (some ⟨gw,a,none⟩)) ?_;refine ty 16 (.slice (some ⟨gr a,0,none⟩) W.nodes.length W.nodes.length) ?_;refine ty 17 (.int .i64 (b:Int)) ?_;refine ty 18 (.pointer (some ⟨gr a,b,none⟩)) ?_;refine ty 20 (.agg #[.bool p.whole,.slice pa1 p.st.clock.length pc1,.slice pa2 p.st.lives.length pc2,.slice pa3 p.st.tals.length pc3,.slice pa4 p.ups.length pc4,.slice pa5 p.clock.length pc5]) ?_;refine wpAnyH_ready (rs:=[19,21]) (by kernel_rfl) (by simp) ?_;refine(rdc rfl (fun K hK=>?_) (rd1 rfl (fun K hK=>?_)))
  ·skip
   have crd_19:=(hgd.cell (p:=⟨gr a,b,none⟩) (World.block_lt_of_cell? W2 _ HCR.out)).trans HCR.out;go_simp;refine hK.out _ _ (HK.out _ hgd) (fun _=>?_);clear hK K
   try simp only[Act.put,Zt,Zs,Zr]
   refine wr 21 fun K hK=>?_;go_simp;have hb_a:=bpl wd (.cells #[.bool p.whole,.slice pa1 p.st.clock.length pc1,.slice pa2 p.st.lives.length pc2,.slice pa3 p.st.tals.length pc3,.slice pa4 p.ups.length pc4,.slice pa5 p.clock.length pc5] 35);have nb_a:=Box.new wd [.bool p.whole,.slice pa1 p.st.clock.length pc1,.slice pa2 p.st.lives.length pc2,.slice pa3 p.st.tals.length pc3,.slice pa4 p.ups.length pc4,.slice pa5 p.clock.length pc5] 35;obtain⟨w_a,HW_a⟩:∃W,Hid (wd.alloc (.cells #[.bool p.whole,.slice pa1 p.st.clock.length pc1,.slice pa2 p.st.lives.length pc2,.slice pa3 p.st.tals.length pc3,.slice pa4 p.ups.length pc4,.slice pa5 p.clock.length pc5] 35)=W):=⟨_,rfl⟩;rw[HW_a.out]at hb_a nb_a ⊢;have hg_a:Zh W2 w_a:=Zd hgd hb_a;refine hK.out _ _ (HK.out _ hg_a) (fun _=>?_);clear hK K
   try simp only[Act.put,Zt,Zs,Zr]
   refine wr 22 fun K hK=>?_;have Gd:=HG2.below hg_a;have Nd:=HN2.below hg_a (nlr _);have Xd:=HX2.below hg_a (nlr _);obtain⟨av',c',e1,hpw,-,-,-,-,-,-⟩:=Gd.way ha hb;rw[HPS.out]at e1 hpw;have e2:Value.slice av' ps.length c'=.slice av ps.length c:=by rw[←e1,HE0.out]
   simp only[Value.slice.injEq,true_and]at e2;obtain⟨rfl,rfl⟩:=e2;obtain⟨qs,hq1,hq2,hq3⟩:=hpw;have hql:qs.length=ps.length:=by rw[←hq2,List.length_map]
   have hll:=HLL.out
   refine step_append_mid rfl (.tmp 56) (.tmp 58) 103 103 rfl B 35 i0 (.agg #[.bool false,.slice none 0 0,.slice none 0 0,.slice none 0 0,.slice none 0 0,.slice none 0 0]) 6 128 Tryz.underlying103 hi hz0 hz1 hz2 rfl (.slice av' ps.length c') qs.length (qs.flatMap (·.2)) rfl hq1 (.slice (some ⟨wd.heap.size,0,none⟩) 1 1) rfl 1 [.bool p.whole,.slice pa1 p.st.clock.length pc1,.slice pa2 p.st.lives.length pc2,.slice pa3 p.st.tals.length pc3,.slice pa4 p.ups.length pc4,.slice pa5 p.clock.length pc5] (Src.ofSlice w_a Tryz.underlying103 ⟨wd.heap.size,0,none⟩ 1 1 _ rfl nb_a.cellsAt (by intro q hq;simp only[List.mem_cons,List.not_mem_nil,or_false]at hq;rcases hq with rfl|rfl|rfl|rfl|rfl|rfl <;> rfl)) (by omega) (by unfold maxLen;omega) (by omega) (by have:=hs2.out;have:=hg_a.size;omega) ?_
   intro v8 w8 hm8 hg8 hv8;obtain⟨a8,c8,hv8f⟩:=hm8.form;rw[hql]at hv8f;subst hv8f;rw[←e1]at hg8 hv8;obtain⟨hx9,hk9,hb9,hbx9,hkp,hfr⟩:=Gd.push ha hb Nd (by have:=hs2.out;have:=hg_a.size;omega) qs (by rw[hq2,HPS.out]) hq3 hm8 hg8 hv8;have HX9:=Za hx9;have HK9:Hid (Keeps Xi w (w8.setCell ⟨gr a,b,none⟩ (.slice a8 (ps.length+1) c8))):=(HK2.trans (Keeps.below hg_a)).trans hk9;have HB9:Hid (Below B w (w8.setCell ⟨gr a,b,none⟩ (.slice a8 (ps.length+1) c8))):=hb9 _ (HB2.trans (hg_a.mono hs2.out))
   have hmne:∀k,Zx ((rv a).getD b (.slice none 0 0))=some k→k≠w1.heap.size:=fun k hk'=>by
    have h1:=((HG.x.pcl a b ha hb (by simp)).lt hk').2.1;have:=hs1.out;omega
   have X8:Box w8 w1.heap.size [.bool p.whole,.slice pa1 p.st.clock.length pc1,.slice pa2 p.st.lives.length pc2,.slice pa3 p.st.tals.length pc3,.slice pa4 p.ups.length pc4,.slice pa5 p.clock.length pc5] 35:=by
    unfold Box at Xd ⊢;rw[hg8.block w1.heap.size (lt_of_block Xd) (fun hh=>hmne _ hh.symm rfl)];exact Xd
   have Wy8:Box w8 gw ((List.range W.nodes.length).map fun a=>.slice (some ⟨gr a,0,none⟩) W.nodes.length W.nodes.length) 100:=hkp.box Gd.x.way (by decide);have R8:=hkp.box (Gd.x.rows a ha).2.1 (by decide)
   have hr8:w8.cell? ⟨gr a,b,none⟩=some (.slice av' ps.length c'):=by
    rw[←e1];refine R8.get b ?_;rw[List.getD_eq_getElem?_getD,List.getElem?_eq_getElem (by rw[(Gd.x.rows a ha).2.2];exact hb)];rfl
   have hgw2:=hgw.out;have hs1':=hs1.out;have X9:=X8.away (g':=gr a) (i:=b) (v:=.slice a8 (ps.length+1) c8) (by omega);have hbx8:Box w8 g _ 95:=hkp.box Gd.box (by decide)
   have hgwa:gw≠gr a:=by
    intro he;have h1:=Wy8;rw[he]at h1;unfold Box at h1 R8;rw[R8]at h1
    simp at h1
   have Wy9:=Wy8.away (g':=gr a) (i:=b) (v:=.slice a8 (ps.length+1) c8) hgwa;have hs8:w8.cell? ⟨g,1,none⟩=some (.slice (some ⟨gw,0,none⟩) W.nodes.length W.nodes.length)∧w8.cell? ⟨gw,a,none⟩=some (.slice (some ⟨gr a,0,none⟩) W.nodes.length W.nodes.length)∧w8.cell? ⟨w1.heap.size,0,none⟩=some (.bool p.whole)∧w8.cell? ⟨w1.heap.size,1,none⟩=some (.slice pa1 p.st.clock.length pc1)∧w8.cell? ⟨w1.heap.size,2,none⟩=some (.slice pa2 p.st.lives.length pc2)∧w8.cell? ⟨w1.heap.size,3,none⟩=some (.slice pa3 p.st.tals.length pc3)∧w8.cell? ⟨w1.heap.size,4,none⟩=some (.slice pa4 p.ups.length pc4)∧w8.cell? ⟨w1.heap.size,5,none⟩=some (.slice pa5 p.clock.length pc5):=⟨hbx8.get 1 rfl,Wy8.get a (by rw[List.getElem?_map,List.getElem?_range ha];rfl),X8.get 0 rfl,X8.get 1 rfl,X8.get 2 rfl,X8.get 3 rfl,X8.get 4 rfl,X8.get 5 rfl⟩;have hs9:(w8.setCell ⟨gr a,b,none⟩ (.slice a8 (ps.length+1) c8)).cell? ⟨g,1,none⟩=some (.slice (some ⟨gw,0,none⟩) W.nodes.length W.nodes.length)∧(w8.setCell ⟨gr a,b,none⟩ (.slice a8 (ps.length+1) c8)).cell? ⟨gw,a,none⟩=some (.slice (some ⟨gr a,0,none⟩) W.nodes.length W.nodes.length)∧(w8.setCell ⟨gr a,b,none⟩ (.slice a8 (ps.length+1) c8)).cell? ⟨w1.heap.size,0,none⟩=some (.bool p.whole)∧(w8.setCell ⟨gr a,b,none⟩ (.slice a8 (ps.length+1) c8)).cell? ⟨w1.heap.size,1,none⟩=some (.slice pa1 p.st.clock.length pc1)∧(w8.setCell ⟨gr a,b,none⟩ (.slice a8 (ps.length+1) c8)).cell? ⟨w1.heap.size,2,none⟩=some (.slice pa2 p.st.lives.length pc2)∧(w8.setCell ⟨gr a,b,none⟩ (.slice a8 (ps.length+1) c8)).cell? ⟨w1.heap.size,3,none⟩=some (.slice pa3 p.st.tals.length pc3)∧(w8.setCell ⟨gr a,b,none⟩ (.slice a8 (ps.length+1) c8)).cell? ⟨w1.heap.size,4,none⟩=some (.slice pa4 p.ups.length pc4)∧(w8.setCell ⟨gr a,b,none⟩ (.slice a8 (ps.length+1) c8)).cell? ⟨w1.heap.size,5,none⟩=some (.slice pa5 p.clock.length pc5):=⟨hbx9.get 1 rfl,Wy9.get a (by rw[List.getElem?_map,List.getElem?_range ha];rfl),X9.get 0 rfl,X9.get 1 rfl,X9.get 2 rfl,X9.get 3 rfl,X9.get 4 rfl,X9.get 5 rfl⟩;refine hK.out _ _ hs8 (fun _=>?_);clear hK K;simp only[Act.put,Zt];refine ty 23 (.pointer (some ⟨gr a,b,none⟩)) ?_;refine wr 24 fun K hK=>?_;go_simp;refine hK.out _ _ hs9 (fun _=>?_);clear hK K hs8 hs9 hr8
   try simp only[Act.put,Zt,Zs,Zr]
   refine wpAnyH_done (by kernel_rfl) ?_ _;rw[HPS.out,HXX.out]at HX9
   go_wp2_with fail
   go_ret
   exact⟨rfl,HX9.out,HK9.out,HB9.out⟩
  skip
  go_simp;have hb_21:=bpl wd (.cells #[.bool p.whole,.slice pa1 p.st.clock.length pc1,.slice pa2 p.st.lives.length pc2,.slice pa3 p.st.tals.length pc3,.slice pa4 p.ups.length pc4,.slice pa5 p.clock.length pc5] 35);have nb_21:=Box.new wd [.bool p.whole,.slice pa1 p.st.clock.length pc1,.slice pa2 p.st.lives.length pc2,.slice pa3 p.st.tals.length pc3,.slice pa4 p.ups.length pc4,.slice pa5 p.clock.length pc5] 35;obtain⟨w_21,HW_21⟩:∃W,Hid (wd.alloc (.cells #[.bool p.whole,.slice pa1 p.st.clock.length pc1,.slice pa2 p.st.lives.length pc2,.slice pa3 p.st.tals.length pc3,.slice pa4 p.ups.length pc4,.slice pa5 p.clock.length pc5] 35)=W):=⟨_,rfl⟩;rw[HW_21.out]at hb_21 nb_21 ⊢;have hg_21:Zh W2 w_21:=Zd hgd hb_21;refine hK.out _ _ (HK.out _ hg_21) (fun _=>?_);clear hK K
  try simp only[Act.put,Zt,Zs,Zr]
  refine wr 19 fun K hK=>?_;have crd_b:=(hg_21.cell (p:=⟨gr a,b,none⟩) (World.block_lt_of_cell? W2 _ HCR.out)).trans HCR.out;go_simp;refine hK.out _ _ (HK.out _ hg_21) (fun _=>?_);clear hK K
  try simp only[Act.put,Zt,Zs,Zr]
  refine wr 22 fun K hK=>?_;have Gd:=HG2.below hg_21;have Nd:=HN2.below hg_21 (nlr _);have Xd:=HX2.below hg_21 (nlr _);obtain⟨av',c',e1,hpw,-,-,-,-,-,-⟩:=Gd.way ha hb;rw[HPS.out]at e1 hpw;have e2:Value.slice av' ps.length c'=.slice av ps.length c:=by rw[←e1,HE0.out]
  simp only[Value.slice.injEq,true_and]at e2;obtain⟨rfl,rfl⟩:=e2;obtain⟨qs,hq1,hq2,hq3⟩:=hpw;have hql:qs.length=ps.length:=by rw[←hq2,List.length_map]
  have hll:=HLL.out
  refine step_append_mid rfl (.tmp 56) (.tmp 58) 103 103 rfl B 35 i0 (.agg #[.bool false,.slice none 0 0,.slice none 0 0,.slice none 0 0,.slice none 0 0,.slice none 0 0]) 6 128 Tryz.underlying103 hi hz0 hz1 hz2 rfl (.slice av' ps.length c') qs.length (qs.flatMap (·.2)) rfl hq1 (.slice (some ⟨wd.heap.size,0,none⟩) 1 1) rfl 1 [.bool p.whole,.slice pa1 p.st.clock.length pc1,.slice pa2 p.st.lives.length pc2,.slice pa3 p.st.tals.length pc3,.slice pa4 p.ups.length pc4,.slice pa5 p.clock.length pc5] (Src.ofSlice w_21 Tryz.underlying103 ⟨wd.heap.size,0,none⟩ 1 1 _ rfl nb_21.cellsAt (by intro q hq;simp only[List.mem_cons,List.not_mem_nil,or_false]at hq;rcases hq with rfl|rfl|rfl|rfl|rfl|rfl <;> rfl)) (by omega) (by unfold maxLen;omega) (by omega) (by have:=hs2.out;have:=hg_21.size;omega) ?_
  intro v8 w8 hm8 hg8 hv8;obtain⟨a8,c8,hv8f⟩:=hm8.form;rw[hql]at hv8f;subst hv8f;rw[←e1]at hg8 hv8;obtain⟨hx9,hk9,hb9,hbx9,hkp,hfr⟩:=Gd.push ha hb Nd (by have:=hs2.out;have:=hg_21.size;omega) qs (by rw[hq2,HPS.out]) hq3 hm8 hg8 hv8;have HX9:=Za hx9;have HK9:Hid (Keeps Xi w (w8.setCell ⟨gr a,b,none⟩ (.slice a8 (ps.length+1) c8))):=(HK2.trans (Keeps.below hg_21)).trans hk9;have HB9:Hid (Below B w (w8.setCell ⟨gr a,b,none⟩ (.slice a8 (ps.length+1) c8))):=hb9 _ (HB2.trans (hg_21.mono hs2.out))
  have hmne:∀k,Zx ((rv a).getD b (.slice none 0 0))=some k→k≠w1.heap.size:=fun k hk'=>by
   have h1:=((HG.x.pcl a b ha hb (by simp)).lt hk').2.1;have:=hs1.out;omega
  have X8:Box w8 w1.heap.size [.bool p.whole,.slice pa1 p.st.clock.length pc1,.slice pa2 p.st.lives.length pc2,.slice pa3 p.st.tals.length pc3,.slice pa4 p.ups.length pc4,.slice pa5 p.clock.length pc5] 35:=by
   unfold Box at Xd ⊢;rw[hg8.block w1.heap.size (lt_of_block Xd) (fun hh=>hmne _ hh.symm rfl)];exact Xd
  have Wy8:Box w8 gw ((List.range W.nodes.length).map fun a=>.slice (some ⟨gr a,0,none⟩) W.nodes.length W.nodes.length) 100:=hkp.box Gd.x.way (by decide);have R8:=hkp.box (Gd.x.rows a ha).2.1 (by decide)
  have hr8:w8.cell? ⟨gr a,b,none⟩=some (.slice av' ps.length c'):=by
   rw[←e1];refine R8.get b ?_;rw[List.getD_eq_getElem?_getD,List.getElem?_eq_getElem (by rw[(Gd.x.rows a ha).2.2];exact hb)];rfl
  have hgw2:=hgw.out;have hs1':=hs1.out;have X9:=X8.away (g':=gr a) (i:=b) (v:=.slice a8 (ps.length+1) c8) (by omega);have hbx8:Box w8 g _ 95:=hkp.box Gd.box (by decide)
  have hgwa:gw≠gr a:=by
   intro he;have h1:=Wy8;rw[he]at h1;unfold Box at h1 R8;rw[R8]at h1
   simp at h1
  have Wy9:=Wy8.away (g':=gr a) (i:=b) (v:=.slice a8 (ps.length+1) c8) hgwa;have hs8:w8.cell? ⟨g,1,none⟩=some (.slice (some ⟨gw,0,none⟩) W.nodes.length W.nodes.length)∧w8.cell? ⟨gw,a,none⟩=some (.slice (some ⟨gr a,0,none⟩) W.nodes.length W.nodes.length)∧w8.cell? ⟨w1.heap.size,0,none⟩=some (.bool p.whole)∧w8.cell? ⟨w1.heap.size,1,none⟩=some (.slice pa1 p.st.clock.length pc1)∧w8.cell? ⟨w1.heap.size,2,none⟩=some (.slice pa2 p.st.lives.length pc2)∧w8.cell? ⟨w1.heap.size,3,none⟩=some (.slice pa3 p.st.tals.length pc3)∧w8.cell? ⟨w1.heap.size,4,none⟩=some (.slice pa4 p.ups.length pc4)∧w8.cell? ⟨w1.heap.size,5,none⟩=some (.slice pa5 p.clock.length pc5):=⟨hbx8.get 1 rfl,Wy8.get a (by rw[List.getElem?_map,List.getElem?_range ha];rfl),X8.get 0 rfl,X8.get 1 rfl,X8.get 2 rfl,X8.get 3 rfl,X8.get 4 rfl,X8.get 5 rfl⟩;have hs9:(w8.setCell ⟨gr a,b,none⟩ (.slice a8 (ps.length+1) c8)).cell? ⟨g,1,none⟩=some (.slice (some ⟨gw,0,none⟩) W.nodes.length W.nodes.length)∧(w8.setCell ⟨gr a,b,none⟩ (.slice a8 (ps.length+1) c8)).cell? ⟨gw,a,none⟩=some (.slice (some ⟨gr a,0,none⟩) W.nodes.length W.nodes.length)∧(w8.setCell ⟨gr a,b,none⟩ (.slice a8 (ps.length+1) c8)).cell? ⟨w1.heap.size,0,none⟩=some (.bool p.whole)∧(w8.setCell ⟨gr a,b,none⟩ (.slice a8 (ps.length+1) c8)).cell? ⟨w1.heap.size,1,none⟩=some (.slice pa1 p.st.clock.length pc1)∧(w8.setCell ⟨gr a,b,none⟩ (.slice a8 (ps.length+1) c8)).cell? ⟨w1.heap.size,2,none⟩=some (.slice pa2 p.st.lives.length pc2)∧(w8.setCell ⟨gr a,b,none⟩ (.slice a8 (ps.length+1) c8)).cell? ⟨w1.heap.size,3,none⟩=some (.slice pa3 p.st.tals.length pc3)∧(w8.setCell ⟨gr a,b,none⟩ (.slice a8 (ps.length+1) c8)).cell? ⟨w1.heap.size,4,none⟩=some (.slice pa4 p.ups.length pc4)∧(w8.setCell ⟨gr a,b,none⟩ (.slice a8 (ps.length+1) c8)).cell? ⟨w1.heap.size,5,none⟩=some (.slice pa5 p.clock.length pc5):=⟨hbx9.get 1 rfl,Wy9.get a (by rw[List.getElem?_map,List.getElem?_range ha];rfl),X9.get 0 rfl,X9.get 1 rfl,X9.get 2 rfl,X9.get 3 rfl,X9.get 4 rfl,X9.get 5 rfl⟩;refine hK.out _ _ hs8 (fun _=>?_);clear hK K;simp only[Act.put,Zt];refine ty 23 (.pointer (some ⟨gr a,b,none⟩)) ?_;refine wr 24 fun K hK=>?_;go_simp;refine hK.out _ _ hs9 (fun _=>?_);clear hK K hs8 hs9 hr8
  try simp only[Act.put,Zt,Zs,Zr]
  refine wpAnyH_done (by kernel_rfl) ?_ _;rw[HPS.out,HXX.out]at HX9
  go_wp2_with fail
  go_ret
  exact⟨rfl,HX9.out,HK9.out,HB9.out⟩
 have he':(E==0)=false:=by simp[he]
 have hX:W=X:=by rw[←HX.out];unfold wsendX;rw[if_neg (by rw[HE.out];exact he)]
 subst hX;clear he
 go_wp2_with fail
 rw[HW2.out];go_ret
 exact⟨rfl,⟨_,HG2.out⟩,HK2.out,HB2.out⟩
end Go.Proofs.YtfhecilhcofboaaGreat
/- world: what happens between two, and whatever happens. -/
namespace Go.Proofs.YtfhecilhcofboaaGreat
open Go.RowKit

def IsDo(w:World)(v:Value)(o:DoS):Prop:=∃sv,v=.agg #[.int .i64 o.kind,.int .i64 o.n,.int .i64 o.dst,.int .i64 o.upd.author,sv,.int .i64 o.upd.kind,.int .i64 o.upd.key,.int .i64 o.upd.item]∧Row w sv o.upd.seen
theorem IsDo.below{w w':World}{v:Value}{o:DoS}(h:IsDo w v o){B:Nat}(hb:Below B w w')(hB:w.heap.size≤B):IsDo w' v o:=by
 obtain⟨sv,h1,h2⟩:=h;exact⟨sv,h1,h2.below hb hB⟩

set_option maxRecDepth 100000 in
set_option maxHeartbeats 4000000 in
theorem between_w(fn:Nat)(eg:∀args w,(callFunc fn args).run Tryz.prog w=.ok (.enter fn args) w)(w:World)(B g:Nat)(W:WdS)(gn gw:Nat)(gr:Nat→Nat)(rv:Nat→List Value)(cv:Value)(v:Value)(o:DoS)(E0:Int)(X0:WdS)(h:GoX w B g W gn gw gr rv cv)(hv:IsDo w v o)(hB:B≤w.heap.size)
  (hf:∀(a b:Nat) w1,o.n=a→o.dst=b→a<W.nodes.length→b<W.nodes.length→B≤w1.heap.size→GoX w1 B g W gn gw gr rv cv→Calls Tryz.prog fn #[.pointer (some ⟨g,0,none⟩),.int .i64 a,.int .i64 b] w1 fun e w'=>e=.returned (.int .i64 E0)∧(∃rv',GoX w' B g X0 gn gw gr rv' cv)∧Keeps Xi w1 w'∧Below B w1 w'):
  Calls Tryz.prog 99 #[.pointer (some ⟨g,0,none⟩),v,.func (.func fn) #[.pointer (some ⟨g,0,none⟩)] #[]] w fun e w'=>e=.returned (.int .i64 (twoE W o.n o.dst E0))∧(∃rv',GoX w' B g (twoX W o.n o.dst X0) gn gw gr rv' cv)∧Keeps Xi w w'∧Below B w w':=by
 obtain⟨sv,rfl,hrow⟩:=hv;obtain⟨sa,sc,rfl,-⟩:=id hrow;have hb0:=bpl w (.cells #[.int .i64 o.kind,.int .i64 o.n,.int .i64 o.dst,.int .i64 o.upd.author,.slice sa o.upd.seen.length sc,.int .i64 o.upd.kind,.int .i64 o.upd.key,.int .i64 o.upd.item] 98);have D0:=Za (Box.new w [.int .i64 o.kind,.int .i64 o.n,.int .i64 o.dst,.int .i64 o.upd.author,.slice sa o.upd.seen.length sc,.int .i64 o.upd.kind,.int .i64 o.upd.key,.int .i64 o.upd.item] 98);have G0:=h.below hb0;obtain⟨W1,HW1⟩:∃W1,Hid (w.alloc (.cells #[.int .i64 o.kind,.int .i64 o.n,.int .i64 o.dst,.int .i64 o.upd.author,.slice sa o.upd.seen.length sc,.int .i64 o.upd.kind,.int .i64 o.upd.key,.int .i64 o.upd.item] 98)=W1):=⟨_,rfl⟩;have hsz:Hid (W1.heap.size=w.heap.size+1):=by unfold Hid;rw[←HW1.out,World.size_alloc]
 rw[HW1.out]at hb0 D0 G0;have HG:=Za G0;have HB0:Hid (Below B w W1):=hb0.mono hB;have HK0:Hid (Keeps Xi w W1):=Keeps.below hb0;have HF:=Za hf;clear h hrow hb0 G0 hf;obtain⟨p,HP⟩:∃p,Hid (isNB W o.n=p):=⟨_,rfl⟩;obtain⟨q,HQ⟩:∃q,Hid (isNB W o.dst=q):=⟨_,rfl⟩;obtain⟨E,HE⟩:∃E,Hid (twoE W o.n o.dst E0=E):=⟨_,rfl⟩;obtain⟨X,HX⟩:∃X,Hid (twoX W o.n o.dst X0=X):=⟨_,rfl⟩;rw[HE.out,HX.out];unfold twoE at HE;unfold twoX at HX;rw[HP.out,HQ.out]at HE HX;have d1:=D0.get 1 rfl;have d2:=D0.get 2 rfl
 cases p
 ·have hE:6=E:=by rw[←HE.out];simp
  have hX:W=X:=by rw[←HX.out];simp
  subst hE;subst hX
  go_enter Tryz.func99,Tryz.ntmps99
  go_upto_region 1 with fail
  rw[HW1.out]
  go_wp2_with fail
  refine(Uo W1 B g W gn gw gr rv cv o.n HG.out).mono ?_;rintro e w' ⟨rfl,rfl⟩;rw[HP.out]
  go_wp2_with fail
  go_ret
  exact⟨rfl,⟨_,HG.out⟩,HK0.out,HB0.out⟩
 cases q
 ·have hE:6=E:=by rw[←HE.out];simp
  have hX:W=X:=by rw[←HX.out];simp
  subst hE;subst hX
  go_enter Tryz.func99,Tryz.ntmps99
  go_upto_region 1 with fail
  rw[HW1.out]
  go_wp2_with fail
  refine(Uo W1 B g W gn gw gr rv cv o.n HG.out).mono ?_;rintro e w' ⟨rfl,rfl⟩;rw[HP.out]
  go_wp2_with fail
  refine(Uo w' B g W gn gw gr rv cv o.dst HG.out).mono ?_;rintro e w'' ⟨rfl,rfl⟩;rw[HQ.out]
  go_wp2_with fail
  go_ret
  exact⟨rfl,⟨_,HG.out⟩,HK0.out,HB0.out⟩
 obtain⟨a,ha,hal⟩:=isNB_nat HP.out;obtain⟨b,hb,hbl⟩:=isNB_nat HQ.out
 by_cases hab:o.n=o.dst
 ·have hab':(o.n==o.dst)=true:=by simp[hab]
  have hE:7=E:=by rw[←HE.out,if_pos ⟨rfl,rfl⟩,if_pos hab]
  have hX:W=X:=by rw[←HX.out,if_neg (fun hh=>hh.2.2 hab)]
  subst hE;subst hX;clear hab ha hb
  go_enter Tryz.func99,Tryz.ntmps99
  go_upto_region 1 with fail
  rw[HW1.out]
  go_wp2_with fail
  refine(Uo W1 B g W gn gw gr rv cv o.n HG.out).mono ?_;rintro e w' ⟨rfl,rfl⟩;rw[HP.out]
  go_wp2_with fail
  refine(Uo w' B g W gn gw gr rv cv o.dst HG.out).mono ?_;rintro e w'' ⟨rfl,rfl⟩;rw[HQ.out]
  go_wp2_with fail
  go_ret
  exact⟨rfl,⟨_,HG.out⟩,HK0.out,HB0.out⟩
 have hab':(o.n==o.dst)=false:=by simp[hab]
 have hE:E0=E:=by rw[←HE.out,if_pos ⟨rfl,rfl⟩,if_neg hab]
 have hX:X0=X:=by rw[←HX.out,if_pos ⟨rfl,rfl,hab⟩]
 subst hE;subst hX;have HC:=Za (HF.out a b W1 ha hb hal hbl (by have:=hsz.out;omega) HG.out);rw[←ha,←hb]at HC;clear hab ha hb
 go_enter Tryz.func99,Tryz.ntmps99
 go_upto_region 1 with fail
 rw[HW1.out]
 go_wp2_with fail
 refine(Uo W1 B g W gn gw gr rv cv o.n HG.out).mono ?_;rintro e w' ⟨rfl,rfl⟩;rw[HP.out]
 go_wp2_with fail
 refine(Uo w' B g W gn gw gr rv cv o.dst HG.out).mono ?_;rintro e w'' ⟨rfl,rfl⟩;rw[HQ.out]
 go_wp2_with fail
 go_at_fn fn
 refine HC.mono ?_;rintro e w2 ⟨rfl,hx,hk,hb2⟩;have HX2:=Za hx;have HK2:Hid (Keeps Xi w w2):=HK0.trans hk;have HB2:Hid (Below B w w2):=HB0.trans hb2;clear hx hk hb2
 go_wp2_with fail
 go_ret
 exact⟨rfl,HX2.out,HK2.out,HB2.out⟩

theorem egSend:∀args w,(callFunc 100 args).run Tryz.prog w=.ok (.enter 100 args) w:=enters_of Tryz.func100 (by kernel_rfl) rfl
theorem egDeliver:∀args w,(callFunc 101 args).run Tryz.prog w=.ok (.enter 101 args) w:=enters_of Tryz.func101 (by kernel_rfl) rfl
theorem egDrop:∀args w,(callFunc 102 args).run Tryz.prog w=.ok (.enter 102 args) w:=enters_of Tryz.func102 (by kernel_rfl) rfl
theorem egIssue:∀args w,(callFunc 98 args).run Tryz.prog w=.ok (.enter 98 args) w:=enters_of Tryz.func98 (by kernel_rfl) rfl
theorem egPrune:∀args w,(callFunc 17 args).run Tryz.prog w=.ok (.enter 17 args) w:=enters_of Tryz.func17 (by kernel_rfl) rfl

set_option maxRecDepth 100000 in
set_option maxHeartbeats 8000000 in
theorem happen_w(w:World)(B g:Nat)(W:WdS)(gn gw:Nat)(gr:Nat→Nat)(rv:Nat→List Value)(cv:Value)(v:Value)(o:DoS)(h:GoX w B g W gn gw gr rv cv)(hv:IsDo w v o)(hB:B≤w.heap.size):
  Calls Tryz.prog 59 #[.pointer (some ⟨g,0,none⟩),v] w fun e w'=>e=.returned (.int .i64 (Xk W o))∧(∃rv',GoX w' B g (stepX W o) gn gw gr rv' cv)∧Keeps Xi w w'∧Below B w w':=by
 have hvin:=hv;obtain⟨sv,rfl,hrow⟩:=hv;obtain⟨sa,sc,rfl,-⟩:=id hrow;have hb0:=bpl w (.cells #[.int .i64 o.kind,.int .i64 o.n,.int .i64 o.dst,.int .i64 o.upd.author,.slice sa o.upd.seen.length sc,.int .i64 o.upd.kind,.int .i64 o.upd.key,.int .i64 o.upd.item] 98);have D0:=Za (Box.new w [.int .i64 o.kind,.int .i64 o.n,.int .i64 o.dst,.int .i64 o.upd.author,.slice sa o.upd.seen.length sc,.int .i64 o.upd.kind,.int .i64 o.upd.key,.int .i64 o.upd.item] 98);have G0:=h.below hb0;have V0:=Za (hvin.below hb0 (nlr _));have U0:=Za (hrow.below hb0 (nlr _));obtain⟨W1,HW1⟩:∃W1,Hid (w.alloc (.cells #[.int .i64 o.kind,.int .i64 o.n,.int .i64 o.dst,.int .i64 o.upd.author,.slice sa o.upd.seen.length sc,.int .i64 o.upd.kind,.int .i64 o.upd.key,.int .i64 o.upd.item] 98)=W1):=⟨_,rfl⟩;have hsz:Hid (W1.heap.size=w.heap.size+1):=by unfold Hid;rw[←HW1.out,World.size_alloc]
 rw[HW1.out]at hb0 D0 G0 V0 U0;have HG:=Za G0;have HB0:Hid (Below B w W1):=hb0.mono hB;have HK0:Hid (Keeps Xi w W1):=Keeps.below hb0;have hB1:Hid (B≤W1.heap.size):=by have:=hsz.out;unfold Hid;omega
 clear h hrow hvin hb0 G0;obtain⟨E,HE⟩:∃E,Hid (Xk W o=E):=⟨_,rfl⟩;obtain⟨X,HX⟩:∃X,Hid (stepX W o=X):=⟨_,rfl⟩;rw[HE.out,HX.out];unfold Xk at HE;unfold stepX at HX
 by_cases h1:o.kind=1
 ·rw[if_pos h1]at HE HX;have HC:=Za (change_w 98 #[.pointer (some ⟨w.heap.size,0,none⟩)] egIssue W1 B g W gn gw gr rv cv o.n (Ob (Xa W o.n) o.upd) (Ou (Xa W o.n) o.upd) HG.out hB1.out (fun v hv _=>issueFn_w v (Xa W o.n) o.upd w.heap.size _ W1 hv (D0.get 3 rfl) (D0.get 4 rfl) (D0.get 5 rfl) (D0.get 6 rfl) (D0.get 7 rfl) ⟨_,rfl,U0.out⟩));rw[HE.out,HX.out]at HC;have hks:∀z:Int,(o.kind==z)=decide ((1:Int)=z):=fun z=>by rw[h1];rfl
  have d0:W1.cell? ⟨w.heap.size,0,none⟩=some (.int .i64 1):=by rw[←h1];exact D0.get 0 rfl
  have d1:=D0.get 1 rfl;clear hks;clear h1
  go_enter Tryz.func59,Tryz.ntmps59
  go_upto_region 1 with fail
  rw[HW1.out]
  go_wp2_with fail
  refine HC.mono ?_;rintro e w2 ⟨rfl,hx,hk,hb2⟩;have HX2:=Za hx;have HK2:Hid (Keeps Xi w w2):=HK0.trans hk;have HB2:Hid (Below B w w2):=HB0.trans hb2;clear hx hk hb2
  go_wp2_with fail
  go_ret
  exact⟨rfl,⟨_,HX2.out⟩,HK2.out,HB2.out⟩
 rw[if_neg h1]at HE HX
 by_cases h2:o.kind=2
 ·rw[if_pos h2]at HE HX;have HC:=Za (between_w 100 egSend W1 B g W gn gw gr rv cv _ o (wsendE W o.n o.dst) (wsendX W o.n o.dst) HG.out V0.out hB1.out (fun a b w1 ha hb hal hbl hBw hgo=>by rw[ha,hb];exact send_w w1 B g W gn gw gr rv cv a b hgo hBw hal hbl));rw[HE.out,HX.out]at HC;have hks:∀z:Int,(o.kind==z)=decide ((2:Int)=z):=fun z=>by rw[h2];rfl
  have d0:W1.cell? ⟨w.heap.size,0,none⟩=some (.int .i64 2):=by rw[←h2];exact D0.get 0 rfl
  have d1:=D0.get 1 rfl;have d2:=D0.get 2 rfl;have d3:=D0.get 3 rfl;have d4:=D0.get 4 rfl;have d5:=D0.get 5 rfl;have d6:=D0.get 6 rfl;have d7:=D0.get 7 rfl;clear hks;rw[h2]at HC;clear h1 h2
  go_enter Tryz.func59,Tryz.ntmps59
  go_upto_region 1 with fail
  rw[HW1.out]
  go_wp2_with fail
  refine HC.mono ?_;rintro e w2 ⟨rfl,hx,hk,hb2⟩;have HX2:=Za hx;have HK2:Hid (Keeps Xi w w2):=HK0.trans hk;have HB2:Hid (Below B w w2):=HB0.trans hb2;clear hx hk hb2
  go_wp2_with fail
  go_ret
  exact⟨rfl,HX2.out,HK2.out,HB2.out⟩
 rw[if_neg h2]at HE HX
 by_cases h3:o.kind=3
 ·rw[if_pos h3]at HE HX;have HC:=Za (between_w 101 egDeliver W1 B g W gn gw gr rv cv _ o (wdelE W o.n o.dst) (wdelX W o.n o.dst) HG.out V0.out hB1.out (fun a b w1 ha hb hal hbl hBw hgo=>by rw[ha,hb];exact deliver_w w1 B g W gn gw gr rv cv a b hgo hBw hal hbl));rw[HE.out,HX.out]at HC;have hks:∀z:Int,(o.kind==z)=decide ((3:Int)=z):=fun z=>by rw[h3];rfl
  have d0:W1.cell? ⟨w.heap.size,0,none⟩=some (.int .i64 3):=by rw[←h3];exact D0.get 0 rfl
  have d1:=D0.get 1 rfl;have d2:=D0.get 2 rfl;have d3:=D0.get 3 rfl;have d4:=D0.get 4 rfl;have d5:=D0.get 5 rfl;have d6:=D0.get 6 rfl;have d7:=D0.get 7 rfl;clear hks;rw[h3]at HC;clear h1 h2 h3
  go_enter Tryz.func59,Tryz.ntmps59
  go_upto_region 1 with fail
  rw[HW1.out]
  go_wp2_with fail
  refine HC.mono ?_;rintro e w2 ⟨rfl,hx,hk,hb2⟩;have HX2:=Za hx;have HK2:Hid (Keeps Xi w w2):=HK0.trans hk;have HB2:Hid (Below B w w2):=HB0.trans hb2;clear hx hk hb2
  go_wp2_with fail
  go_ret
  exact⟨rfl,HX2.out,HK2.out,HB2.out⟩
 rw[if_neg h3]at HE HX
 by_cases h4:o.kind=4
 ·rw[if_pos h4]at HE HX;have HC:=Za (between_w 102 egDrop W1 B g W gn gw gr rv cv _ o (nextE W o.n o.dst) (zN W o.n o.dst) HG.out V0.out hB1.out (fun a b w1 ha hb hal hbl hBw hgo=>by rw[ha,hb];exact drop_w w1 B g W gn gw gr rv cv a b hgo hBw hal hbl));rw[HE.out,HX.out]at HC;have hks:∀z:Int,(o.kind==z)=decide ((4:Int)=z):=fun z=>by rw[h4];rfl
  have d0:W1.cell? ⟨w.heap.size,0,none⟩=some (.int .i64 4):=by rw[←h4];exact D0.get 0 rfl
  have d1:=D0.get 1 rfl;have d2:=D0.get 2 rfl;have d3:=D0.get 3 rfl;have d4:=D0.get 4 rfl;have d5:=D0.get 5 rfl;have d6:=D0.get 6 rfl;have d7:=D0.get 7 rfl;clear hks;rw[h4]at HC;clear h1 h2 h3 h4
  go_enter Tryz.func59,Tryz.ntmps59
  go_upto_region 1 with fail
  rw[HW1.out]
  go_wp2_with fail
  refine HC.mono ?_;rintro e w2 ⟨rfl,hx,hk,hb2⟩;have HX2:=Za hx;have HK2:Hid (Keeps Xi w w2):=HK0.trans hk;have HB2:Hid (Below B w w2):=HB0.trans hb2;clear hx hk hb2
  go_wp2_with fail
  go_ret
  exact⟨rfl,HX2.out,HK2.out,HB2.out⟩
 rw[if_neg h4]at HE HX
 by_cases h5:o.kind=5
 ·rw[if_pos h5]at HE HX;have HC:=Za (change_w 17 #[] egPrune W1 B g W gn gw gr rv cv o.n (Vi (Xa W o.n)) (yM (Xa W o.n)) HG.out hB1.out (fun v hv _=>(prune_node v (Xa W o.n) W1 hv).mono fun e w' ⟨rv,h1,h2,h3⟩=>⟨rv,h1,h2.base (by omega),h3⟩));rw[HE.out,HX.out]at HC;have hks:∀z:Int,(o.kind==z)=decide ((5:Int)=z):=fun z=>by rw[h5];rfl
  have d0:W1.cell? ⟨w.heap.size,0,none⟩=some (.int .i64 5):=by rw[←h5];exact D0.get 0 rfl
  have d1:=D0.get 1 rfl;clear hks;clear h1 h2 h3 h4 h5
  go_enter Tryz.func59,Tryz.ntmps59
  go_upto_region 1 with fail
  rw[HW1.out]
  go_wp2_with fail
  refine HC.mono ?_;rintro e w2 ⟨rfl,hx,hk,hb2⟩;have HX2:=Za hx;have HK2:Hid (Keeps Xi w w2):=HK0.trans hk;have HB2:Hid (Below B w w2):=HB0.trans hb2;clear hx hk hb2
  go_wp2_with fail
  go_ret
  exact⟨rfl,⟨_,HX2.out⟩,HK2.out,HB2.out⟩
 rw[if_neg h5]at HE HX;have k1:(o.kind==1)=false:=by simp[h1]
 have k2:(o.kind==2)=false:=by simp[h2]
 have k3:(o.kind==3)=false:=by simp[h3]
 have k4:(o.kind==4)=false:=by simp[h4]
 have k5:(o.kind==5)=false:=by simp[h5]
 have hE:1=E:=HE.out;have hX:W=X:=HX.out;subst hE;subst hX;have d0:=D0.get 0 rfl;clear h1 h2 h3 h4 h5
 go_enter Tryz.func59,Tryz.ntmps59
 go_upto_region 1 with fail
 rw[HW1.out]
 go_wp2_with fail
 go_ret
 exact⟨rfl,⟨_,HG.out⟩,HK0.out,HB0.out⟩
end Go.Proofs.YtfhecilhcofboaaGreat
/- world: a world in which nothing has happened yet. -/
namespace Go.Proofs.YtfhecilhcofboaaGreat
open Go.RowKit

theorem Tryz.infoNode:(Tryz.prog.info? 31).map (fun i=>(i.zero,i.size,i.bytes))=some (some (.agg #[.int .i64 0,.slice none 0 0,.slice none 0 0,.slice none 0 0,.slice none 0 0,.slice none 0 0,.slice none 0 0]),7,152):=by kernel_rfl
theorem Tryz.infoWay:(Tryz.prog.info? 100).map (fun i=>(i.zero,i.size,i.bytes))=some (some (.slice none 0 0),1,24):=by kernel_rfl
theorem Tryz.infoRow:(Tryz.prog.info? 103).map (fun i=>(i.zero,i.size,i.bytes))=some (some (.slice none 0 0),1,24):=by kernel_rfl
theorem Tryz.sizeGoing:(Tryz.prog.info? 95).map (·.size)=some 3:=by kernel_rfl
theorem made_nodes:∀k,k≤6→madeCells #[.int .i64 0,.slice none 0 0,.slice none 0 0,.slice none 0 0,.slice none 0 0,.slice none 0 0,.slice none 0 0] (k*7)=(List.replicate k [.int .i64 0,.slice none 0 0,.slice none 0 0,.slice none 0 0,.slice none 0 0,.slice none 0 0,.slice none 0 0]).flatten.toArray
 |0,_=>by kernel_rfl
 |1,_=>by kernel_rfl
 |2,_=>by kernel_rfl
 |3,_=>by kernel_rfl
 |4,_=>by kernel_rfl
 |5,_=>by kernel_rfl
 |6,_=>by kernel_rfl
 |k+7,h=>by omega
theorem run_make_nodes{k:Nat}(hk:k≤6)(w:World):(Instr.makeSlice 49 (.int .i64 k) (.int .i64 k)).run Tryz.prog w=.ok (.slice (some ⟨w.heap.size,0,none⟩) k k) (w.alloc (.cells (List.replicate k [.int .i64 0,.slice none 0 0,.slice none 0 0,.slice none 0 0,.slice none 0 0,.slice none 0 0,.slice none 0 0]).flatten.toArray 31)):=by
 obtain⟨i,hi,hzz⟩:=Option.map_eq_some_iff.1 Tryz.infoNode;simp only[Prod.mk.injEq]at hzz;obtain⟨hz,hs,hb⟩:=hzz;have hr:=run_make (P:=Tryz.prog) w 49 31 i _ Tryz.underlying49 hi hz .i64 .i64 k k (by omega) (Int.le_refl _) (by rw[hb];omega) (by omega);simp only[Int.toNat_natCast,hs]at hr;rw[hr,←made_nodes k hk];rfl
theorem run_make_ways{k:Nat}(hk:k≤6)(w:World):(Instr.makeSlice 50 (.int .i64 k) (.int .i64 k)).run Tryz.prog w=.ok (.slice (some ⟨w.heap.size,0,none⟩) k k) (w.alloc (.cells (List.replicate k (Value.slice none 0 0)).toArray 100)):=by
 have:=run_make_row' 50 100 (.slice none 0 0) 24 Tryz.underlying50 Tryz.infoWay rfl .i64 .i64 k (by omega) (by omega) w;rw[xS k hk]at this;exact this
theorem run_make_rows{k:Nat}(hk:k≤6)(w:World):(Instr.makeSlice 100 (.int .i64 k) (.int .i64 k)).run Tryz.prog w=.ok (.slice (some ⟨w.heap.size,0,none⟩) k k) (w.alloc (.cells (List.replicate k (Value.slice none 0 0)).toArray 103)):=by
 have:=run_make_row' 100 103 (.slice none 0 0) 24 Tryz.underlying100 Tryz.infoRow rfl .i64 .i64 k (by omega) (by omega) w;rw[xS k hk]at this;exact this
theorem set_mid{α:Type}{f:Nat→α}{z:α}{m n:Nat}(h:m<n):(((List.range m).map f)++List.replicate (n - m) z).set m (f m)=((List.range (m+1)).map f)++List.replicate (n - (m+1)) z:=by
 obtain⟨r,hr⟩:∃r,n - m=r+1:=⟨n - m - 1,by omega⟩;rw[hr,show n - (m+1)=r by omega,List.set_append_right _ _ (by simp),List.replicate_succ (n:=r),List.range_succ]
 simp
theorem map_upd{α:Type}{f f':Nat→α}{m:Nat}(h:∀a,a<m→f' a=f a):(List.range m).map f'=(List.range m).map f:=List.map_congr_left fun a ha=>h a (List.mem_range.1 ha)
structure BegM (w:World) (B n m gG gn gw:Nat) (gr:Nat→Nat) (m':Nat):Prop where
 box:Box w gG [.slice (some ⟨gn,0,none⟩) n n,.slice (some ⟨gw,0,none⟩) n n,.slice none 0 0] 95
 nodes:zV w B gn (((List.range m').map fun(i:Nat)=>Uu i n)++List.replicate (n - m') Yu)
 way:Box w gw (((List.range m).map fun a=>Value.slice (some ⟨gr a,0,none⟩) n n)++List.replicate (n - m) (Value.slice none 0 0)) 100
 rows:∀a,a<m→B≤gr a∧Box w (gr a) (List.replicate n (.slice none 0 0)) 103
 inj:∀a b,a<m→b<m→gr a=gr b→a=b
theorem BegM.below{w w':World}{B n m gG gn gw m':Nat}{gr:Nat→Nat}(h:BegM w B n m gG gn gw gr m')(hb:Below w.heap.size w w'):BegM w' B n m gG gn gw gr m':=
 ⟨h.box.below hb (nlr _),h.nodes.kept (S:=[]) (Keeps.below hb) ⟨by simp,by simp,by simp,by simp,by simp⟩ (by simp),h.way.below hb (nlr _),fun a ha=>⟨(h.rows a ha).1,(h.rows a ha).2.below hb (nlr _)⟩,h.inj⟩
theorem BegM.done{w:World}{B n gG gn gw:Nat}{gr:Nat→Nat}(h:BegM w B n n gG gn gw gr n)(h6:n≤6)(h1:B≤gn)(h2:B≤gw):WdX w B (Uy n) gn gw gr (fun _=>List.replicate n (.slice none 0 0)) none:=by
 have hl:=begin_len n
 have hnil:∀(b:Nat),(List.replicate n (Value.slice none 0 0)).getD b (.slice none 0 0)=.slice none 0 0:=by
  intro b;rw[List.getD_eq_getElem?_getD,List.getElem?_replicate]
  split <;> rfl
 refine⟨by rw[hl];exact h6,by unfold Uy;simp,fun a ha=>?_,h1,h2,?_,?_,fun a ha=>?_,fun a b ha hb=>?_,fun a b _ _ _=>?_,fun a b c d k _ _ _ _ _ _ hk=>?_⟩
 ·rw[hl]at ha ⊢;unfold Uy
  simp only
  rw[List.getD_eq_getElem?_getD,List.getElem?_replicate,if_pos ha]
  simp
 ·have:=h.nodes;rw[Nat.sub_self,List.replicate_zero,List.append_nil]at this;exact this
 ·have:=h.way;rw[Nat.sub_self,List.replicate_zero,List.append_nil]at this;rw[hl];exact this
 ·rw[hl]at ha ⊢;exact⟨(h.rows a ha).1,(h.rows a ha).2,by simp⟩
 ·rw[hl]at ha hb;exact h.inj a b ha hb
 ·rw[hnil,begin_way];exact PwO.nil w B none
 rw[hnil]at hk
 simp[Zx]at hk
theorem nodes_zero{w:World}{B gn n:Nat}(h:Box w gn (List.replicate n [.int .i64 0,.slice none 0 0,.slice none 0 0,.slice none 0 0,.slice none 0 0,.slice none 0 0,.slice none 0 0]).flatten 31):zV w B gn (List.replicate n Yu):=by
 refine⟨_,h,by simp,fun l hl=>by rw[List.eq_of_mem_replicate hl];rfl,fun i d hd=>?_⟩;have hi:i<n:=by have:=(List.getElem?_eq_some_iff.1 hd).1;simpa using this
 rw[List.getElem?_replicate,if_pos hi]at hd;simp only[Option.some.injEq]at hd;subst hd;exact⟨_,_,_,_,_,_,_,by rw[List.getElem?_replicate,if_pos hi],Yo.none w B⟩

set_option maxRecDepth 100000 in
set_option maxHeartbeats 8000000 in
theorem begin_w(n:Nat)(w:World)(h1:1≤n)(h6:n≤6):
  Calls Tryz.prog 58 #[.int .i64 n] w fun e w'=>∃gn gw,e=.returned (.agg #[.slice (some ⟨gn,0,none⟩) n n,.slice (some ⟨gw,0,none⟩) n n,.slice none 0 0])∧(∃gr,WdX w' w.heap.size (Uy n) gn gw gr (fun _=>List.replicate n (.slice none 0 0)) none)∧Below w.heap.size w w':=by
 have hb0:=bpl w (.cells #[.slice none 0 0,.slice none 0 0,.slice none 0 0] 95);have R0:=Za (Box.new w [.slice none 0 0,.slice none 0 0,.slice none 0 0] 95);obtain⟨W1,HW1⟩:∃W1,Hid (w.alloc (.cells #[.slice none 0 0,.slice none 0 0,.slice none 0 0] 95)=W1):=⟨_,rfl⟩;have hsz:Hid (W1.heap.size=w.heap.size+1):=by unfold Hid;rw[←HW1.out,World.size_alloc]
 rw[HW1.out]at hb0 R0;have HB0:=Za hb0;clear hb0;have hmn:=fun w:World=>run_make_nodes h6 w;have hmw:=fun w:World=>run_make_ways h6 w;have hmr:=fun w:World=>run_make_rows h6 w;obtain⟨zn,HZN⟩:∃zn:List Value,Hid ((List.replicate n ([.int .i64 0,.slice none 0 0,.slice none 0 0,.slice none 0 0,.slice none 0 0,.slice none 0 0,.slice none 0 0]:List Value)).flatten=zn):=⟨_,rfl⟩;obtain⟨zw,HZW⟩:∃zw,Hid (List.replicate n (Value.slice none 0 0)=zw):=⟨_,rfl⟩;rw[HZN.out]at hmn;rw[HZW.out]at hmw hmr
 go_enter Tryz.func58,Tryz.ntmps58
 go_upto_region 1 with fail
 rw[HW1.out]
 go_cut [3] (fun c wx=>∃gG gn gw,c=.pointer (some ⟨gG,0,none⟩)∧Hid (Box wx gG [.slice (some ⟨gn,0,none⟩) n n,.slice (some ⟨gw,0,none⟩) n n,.slice none 0 0] 95)∧Hid (Box wx gn zn 31)∧Hid (Box wx gw zw 100)∧Hid (W1.heap.size≤gG∧W1.heap.size≤gn∧W1.heap.size≤gw)∧Hid (Zh W1 wx))
 case first=>
  refine bD (fun _=>false) (fun _=>True) (Zi _) (fun _ _=>trivial) fun W hg _=>?_;refine yD 0 (.int .i64 (n:Int)) ?_;refine yD 2 (.int .i64 (n:Int)) ?_
  repeat'
   first
   |refine eD ?_ (by decide+kernel)
   |refine yT 4 (.agg #[.slice (some ⟨g1,0,none⟩) n n,.slice (some ⟨g3,0,none⟩) n n]) ?_ (hs:=by decide+kernel)
   |refine yT 5 (.agg #[.slice (some ⟨g1,0,none⟩) n n,.slice (some ⟨g3,0,none⟩) n n,.slice none 0 0]) ?_ (hs:=by decide+kernel)
   |refine aR (cR 1 ?_ (cR 3 ?_ (cR 6 ?_ (cR 7 ?_ nR))))
   |exact fun _ h=>absurd h (by decide+kernel)
   | (refine fun(_:Tg 1) _ K hK=>?_
      go_simp;have hge1:=hg.size;obtain⟨g1,hg1⟩:∃g,Hid (W.heap.size=g):=⟨_,rfl⟩;rw[hg1.out]at hge1;obtain⟨W,HW,q1,hb,-⟩:=xW W zn 31;rw[HW.out,hg1.out];have q1:=q1.out;have hb:=hb.out;rw[hg1.out]at q1
      try have q3:=q3.below hb (nlr _)
      try have q6:=q6.below hb (nlr _)
      have hg:=Zd hg hb
      refine kS hK trivial ?_)
   | (refine fun(_:Tg 3) _ K hK=>?_
      go_simp;have hge3:=hg.size;obtain⟨g3,hg3⟩:∃g,Hid (W.heap.size=g):=⟨_,rfl⟩;rw[hg3.out]at hge3;obtain⟨W,HW,q3,hb,-⟩:=xW W zw 100;rw[HW.out,hg3.out];have q3:=q3.out;have hb:=hb.out;rw[hg3.out]at q3
      try have q1:=q1.below hb (nlr _)
      try have q6:=q6.below hb (nlr _)
      have hg:=Zd hg hb
      refine kS hK trivial ?_)
   | (refine fun(_:Tg 6) _ K hK=>?_
      go_simp;have hge6:=hg.size;obtain⟨g6,hg6⟩:∃g,Hid (W.heap.size=g):=⟨_,rfl⟩;rw[hg6.out]at hge6;obtain⟨W,HW,q6,hb,-⟩:=xW W [.slice none 0 0,.slice none 0 0,.slice none 0 0] 95;rw[HW.out,hg6.out];have q6:=q6.out;have hb:=hb.out;rw[hg6.out]at q6
      try have q1:=q1.below hb (nlr _)
      try have q3:=q3.below hb (nlr _)
      have hg:=Zd hg hb
      refine kS hK trivial ?_)
   | (refine fun(_:Tg 7) _ K hK=>?_
      have c0:=q6.get 0 rfl;have f0:=q6.free 0;have c1:=q6.get 1 rfl;have f1:=q6.free 1;have c2:=q6.get 2 rfl;have f2:=q6.free 2;go_simp
      refine kS hK trivial ?_)
  all_goals
   have hn1:g1≠g6:=fun he=>by have h1:=q1;rw[he]at h1;have h2:=q6;unfold Box at h1 h2;rw[h2]at h1;simp at h1
   have hn2:g3≠g6:=fun he=>by have h1:=q3;rw[he]at h1;have h2:=q6;unfold Box at h1 h2;rw[h2]at h1;simp at h1
   have hBx:=(((q6.set 0 (.slice (some ⟨g1,0,none⟩) n n)).set 1 (.slice (some ⟨g3,0,none⟩) n n)).set 2 (.slice none 0 0));have hGG:Zh W1 _:=(Below.setCell (Below.setCell (Below.setCell hg (p:=⟨g6,0,none⟩) hge6 (.slice (some ⟨g1,0,none⟩) n n)) (p:=⟨g6,1,none⟩) hge6 (.slice (some ⟨g3,0,none⟩) n n)) (p:=⟨g6,2,none⟩) hge6 (.slice none 0 0));have hNn:=(((q1.away (g':=g6) (i:=0) (v:=.slice (some ⟨g1,0,none⟩) n n) hn1).away (g':=g6) (i:=1) (v:=.slice (some ⟨g3,0,none⟩) n n) hn1).away (g':=g6) (i:=2) (v:=.slice none 0 0) hn1);have hWw:=(((q3.away (g':=g6) (i:=0) (v:=.slice (some ⟨g1,0,none⟩) n n) hn2).away (g':=g6) (i:=1) (v:=.slice (some ⟨g3,0,none⟩) n n) hn2).away (g':=g6) (i:=2) (v:=.slice none 0 0) hn2)
   go_wp2_with fail
   go_meet
   exact⟨_,_,_,rfl,hBx,hNn,hWw,⟨hge6,hge1,hge3⟩,hGG⟩
 obtain⟨gG,gn,gw,rfl,BX,BN,BW,GE,HGR⟩:=hcut;obtain⟨w2,rfl⟩:∃w2,w2=wc:=⟨wc,rfl⟩;have hge:=GE.out;have hsz':=hsz.out;have hbn:w.heap.size≤gn:=by omega
 have hbw:w.heap.size≤gw:=by omega
 have hbG:w.heap.size≤gG:=by omega
 have R2:=Za (R0.below HGR.out (nlr _));have HB2:Hid (Below w.heap.size w w2):=Zb HB0.out HGR.out
 have M0:Hid (BegM w2 w.heap.size n 0 gG gn gw (fun _=>0) 0):=by
  refine⟨BX.out,?_,?_,fun a ha=>by omega,fun a b ha=>by omega⟩
  ·have:=nodes_zero (B:=w.heap.size) (by rw[HZN.out];exact BN.out)
   simpa using this
  have:=BW.out;rw[←HZW.out]at this
  simpa using this
 clear BN BW HGR R0 HB0 GE
 go_wp2_with fail
 go_loopw [12] (fun q wr=>∃(m:Nat) (gr:Nat→Nat),m≤n∧q=.int .i64 m∧Hid (BegM wr w.heap.size n m gG gn gw gr m)∧Hid (Box wr w.heap.size [.slice none 0 0,.slice none 0 0,.slice none 0 0] 95)∧Hid (Below w.heap.size w wr)) (fun q _=>n - (intOf q).toNat)
 case atStart=>exact⟨0,_,Nat.zero_le _,rfl,M0,R2,HB2⟩
 obtain⟨m,gr,hm,rfl,Mm,Rm,HBm⟩:=hrel;obtain⟨w4,rfl⟩:∃w4,w4=wr:=⟨wr,rfl⟩;clear M0 R2 HB2 BX
 by_cases hlt:m<n
 ·have hlt':(m:Int)<(n:Int):=by omega
  have hs4:=Mm.box.lt;have hs4w:w.heap.size≤w4.heap.size:=HBm.size;have hE:zH m n=0:=by unfold zH;rw[if_pos (by omega),if_pos (by omega)]
  have HE:=Za hE;obtain⟨X,HX⟩:∃X,Hid (Uu m n=X):=⟨_,rfl⟩;clear hE;have HK:=Za fun w' (hg:Zh w4 w')=>And.intro ((Mm.box.below hg (nlr _)).get 0 rfl) ((Mm.box.below hg (nlr _)).get 1 rfl)
  go_upto_region 5 with fail
  go_cut [] (fun wx=>∃_:True,Hid (BegM wx w.heap.size n m gG gn gw gr (m+1))∧Hid (Box wx w.heap.size [.slice none 0 0,.slice none 0 0,.slice none 0 0] 95)∧Hid (Below w.heap.size w wx))
  case first=>
   refine rgn HK.out fun wd hgd hHeld=>?_;refine ty 0 (.pointer (some ⟨gG,0,none⟩)) ?_;refine ty 1 (.pointer (some ⟨gG,0,none⟩)) ?_;refine ty 2 (.slice (some ⟨gn,0,none⟩) n n) ?_;refine ty 3 (.int .i64 (m:Int)) ?_;refine ty 4 (.int .i64 (m:Int)) ?_;refine ty 5 (.int .i64 (n:Int)) ?_;refine wr 6 fun K hK=>?_;go_simp;refine(start_node m n wd).mono ?_;rintro e w5 ⟨v5,rfl,ho5,hb5⟩;rw[HE.out];rw[HX.out]at ho5;obtain⟨xa1,xc1,xa2,xc2,xa3,xc3,xa4,xc4,xa5,xc5,xa6,xc6,hv5⟩:=ho5.form;subst hv5;have hg5:Zh w4 w5:=Zd hgd hb5;refine hK.out _ _ (HK.out _ hg5) (fun _=>?_);clear hK K
   try simp only[Act.put,Zt,Zs,Zr]
   refine ty 7 (.tuple #[.agg #[.int .i64 X.self,.slice xa1 X.st.clock.length xc1,.slice xa2 X.st.lives.length xc2,.slice xa3 X.st.tals.length xc3,.slice xa4 X.base.length xc4,.slice xa5 X.log.length xc5,.slice xa6 X.known.length xc6],.int .i64 0]) ?_;refine ty 8 (.agg #[.int .i64 X.self,.slice xa1 X.st.clock.length xc1,.slice xa2 X.st.lives.length xc2,.slice xa3 X.st.tals.length xc3,.slice xa4 X.base.length xc4,.slice xa5 X.log.length xc5,.slice xa6 X.known.length xc6]) ?_;refine ty 9 (.int .i64 0) ?_;refine ty 10 (.pointer (some ⟨gn,m*7,none⟩)) ?_;have M5:=Mm.below hg5;have R5:=Rm.below hg5 (nlr _);have N5:=ho5.base (C:=w.heap.size) (by have:=hgd.size;omega);have hml:m<(((List.range m).map fun(i:Nat)=>Uu i n)++List.replicate (n - m) Yu).length:=by simp;omega
   obtain⟨hN6,hK6⟩:=M5.nodes.put hml N5;have hset:(((List.range m).map fun(i:Nat)=>Uu i n)++List.replicate (n - m) Yu).set m X=((List.range (m+1)).map fun(i:Nat)=>Uu i n)++List.replicate (n - (m+1)) Yu:=by rw[←HX.out];exact set_mid (f:=fun(i:Nat)=>Uu i n) hlt
   rw[hset]at hN6;have M6:BegM (((((((w5.setCell ⟨gn,m*7,none⟩ (.int .i64 X.self)).setCell ⟨gn,m*7+1,none⟩ (.slice xa1 X.st.clock.length xc1)).setCell ⟨gn,m*7+2,none⟩ (.slice xa2 X.st.lives.length xc2)).setCell ⟨gn,m*7+3,none⟩ (.slice xa3 X.st.tals.length xc3)).setCell ⟨gn,m*7+4,none⟩ (.slice xa4 X.base.length xc4)).setCell ⟨gn,m*7+5,none⟩ (.slice xa5 X.log.length xc5)).setCell ⟨gn,m*7+6,none⟩ (.slice xa6 X.known.length xc6)) w.heap.size n m gG gn gw gr (m+1):=⟨hK6.box M5.box (by decide),hN6,hK6.box M5.way (by decide),fun a ha=>⟨(M5.rows a ha).1,hK6.box (M5.rows a ha).2 (by decide)⟩,M5.inj⟩;have R6:=hK6.box R5 (by decide);have HB6:=((((((((HBm.trans (hg5.mono (by have:=hsz.out;omega))).setCell (p:=⟨gn,m*7,none⟩) hbn (.int .i64 X.self)).setCell (p:=⟨gn,m*7+1,none⟩) hbn (.slice xa1 X.st.clock.length xc1)).setCell (p:=⟨gn,m*7+2,none⟩) hbn (.slice xa2 X.st.lives.length xc2)).setCell (p:=⟨gn,m*7+3,none⟩) hbn (.slice xa3 X.st.tals.length xc3)).setCell (p:=⟨gn,m*7+4,none⟩) hbn (.slice xa4 X.base.length xc4)).setCell (p:=⟨gn,m*7+5,none⟩) hbn (.slice xa5 X.log.length xc5)).setCell (p:=⟨gn,m*7+6,none⟩) hbn (.slice xa6 X.known.length xc6))
   have hat:(((List.range m).map fun(i:Nat)=>Uu i n)++List.replicate (n - m) Yu)[m]? =some Yu:=by
    rw[List.getElem?_append_right (by simp),List.length_map,List.length_range,Nat.sub_self,List.getElem?_replicate,if_pos (by omega)]
   obtain⟨z0,z1,z2,z3,z4,z5,z6,-,c0,c1,c2,c3,c4,c5,c6⟩:=M5.nodes.at hat;have fz:∀q,w5.frozen? ⟨gn,q,none⟩=false:=fun q=>by obtain⟨ns,hbx,-⟩:=M5.nodes;exact hbx.free q
   have f0:=fz (m*7);have f1:=fz (m*7+1);have f2:=fz (m*7+2);have f3:=fz (m*7+3);have f4:=fz (m*7+4);have f5:=fz (m*7+5);have f6:=fz (m*7+6);have hs6:(((((((w5.setCell ⟨gn,m*7,none⟩ (.int .i64 X.self)).setCell ⟨gn,m*7+1,none⟩ (.slice xa1 X.st.clock.length xc1)).setCell ⟨gn,m*7+2,none⟩ (.slice xa2 X.st.lives.length xc2)).setCell ⟨gn,m*7+3,none⟩ (.slice xa3 X.st.tals.length xc3)).setCell ⟨gn,m*7+4,none⟩ (.slice xa4 X.base.length xc4)).setCell ⟨gn,m*7+5,none⟩ (.slice xa5 X.log.length xc5)).setCell ⟨gn,m*7+6,none⟩ (.slice xa6 X.known.length xc6)).cell? ⟨gG,0,none⟩=some (.slice (some ⟨gn,0,none⟩) n n)∧(((((((w5.setCell ⟨gn,m*7,none⟩ (.int .i64 X.self)).setCell ⟨gn,m*7+1,none⟩ (.slice xa1 X.st.clock.length xc1)).setCell ⟨gn,m*7+2,none⟩ (.slice xa2 X.st.lives.length xc2)).setCell ⟨gn,m*7+3,none⟩ (.slice xa3 X.st.tals.length xc3)).setCell ⟨gn,m*7+4,none⟩ (.slice xa4 X.base.length xc4)).setCell ⟨gn,m*7+5,none⟩ (.slice xa5 X.log.length xc5)).setCell ⟨gn,m*7+6,none⟩ (.slice xa6 X.known.length xc6)).cell? ⟨gG,1,none⟩=some (.slice (some ⟨gw,0,none⟩) n n):=⟨M6.box.get 0 rfl,M6.box.get 1 rfl⟩;clear fz;refine wr 11 fun K hK=>?_;go_simp;obtain⟨W6,HW6⟩:∃W6,Hid ((((((((w5.setCell ⟨gn,m*7,none⟩ (.int .i64 X.self)).setCell ⟨gn,m*7+1,none⟩ (.slice xa1 X.st.clock.length xc1)).setCell ⟨gn,m*7+2,none⟩ (.slice xa2 X.st.lives.length xc2)).setCell ⟨gn,m*7+3,none⟩ (.slice xa3 X.st.tals.length xc3)).setCell ⟨gn,m*7+4,none⟩ (.slice xa4 X.base.length xc4)).setCell ⟨gn,m*7+5,none⟩ (.slice xa5 X.log.length xc5)).setCell ⟨gn,m*7+6,none⟩ (.slice xa6 X.known.length xc6))=W6):=⟨_,rfl⟩;rw[HW6.out]at M6 R6 HB6 hs6
   try rw[HW6.out]
   refine hK.out _ _ hs6 (fun _=>?_);clear hK K hs6 c0 c1 c2 c3 c4 c5 c6 f0 f1 f2 f3 f4 f5 f6 hN6 hK6
   try simp only[Act.put,Zt,Zs,Zr]
   refine wpAnyH_done (by kernel_rfl) ?_ _
   go_wp2_with fail
   go_meet
   exact⟨trivial,M6,R6,HB6⟩
  obtain⟨-,M6,R6,HB6⟩:=hcut;obtain⟨w6,rfl⟩:∃w6,w6=wc:=⟨wc,rfl⟩;have hs6:=M6.box.lt;have hs6w:w.heap.size≤w6.heap.size:=HB6.size;have HK6:=Za fun w' (hg:Zh w6 w')=>And.intro ((M6.box.below hg (nlr _)).get 0 rfl) ((M6.box.below hg (nlr _)).get 1 rfl);clear HK Mm Rm HBm
  go_upto_region 6 with fail
  refine rgn HK6.out fun wd hgd hHeld=>?_;refine ty 0 (.pointer (some ⟨gG,0,none⟩)) ?_;refine ty 1 (.pointer (some ⟨gG,1,none⟩)) ?_;refine ty 2 (.slice (some ⟨gw,0,none⟩) n n) ?_;refine ty 3 (.int .i64 (m:Int)) ?_;refine ty 4 (.int .i64 (n:Int)) ?_;refine wr 5 fun K hK=>?_;go_simp;have hb7:=bpl wd (.cells zw.toArray 103);have X7:=Box.new wd zw 103;obtain⟨w7,HW7⟩:∃wn,Hid (wd.alloc (.cells zw.toArray 103)=wn):=⟨_,rfl⟩;rw[HW7.out]at hb7 X7 ⊢;have hg7:Zh w6 w7:=Zd hgd hb7;refine hK.out _ _ (HK6.out _ hg7) (fun _=>?_);clear hK K
  try simp only[Act.put,Zt,Zs,Zr]
  refine ty 6 (.pointer (some ⟨gw,m,none⟩)) ?_;have M7:=M6.below hg7;have R7:=R6.below hg7 (nlr _);have hws:=hgd.size;have hk8:=Yt M7.way m (.slice (some ⟨wd.heap.size,0,none⟩) n n);have W8:=M7.way.set m (.slice (some ⟨wd.heap.size,0,none⟩) n n);have hold:∀a,a<m→gr a<w6.heap.size:=fun a ha=>(M6.rows a ha).2.lt
  have hw8:(((List.range m).map fun a=>Value.slice (some ⟨(fun a=>if a=m then wd.heap.size else gr a) a,0,none⟩) n n)++List.replicate (n - m) (Value.slice none 0 0)).set m (Value.slice (some ⟨wd.heap.size,0,none⟩) n n)=((List.range (m+1)).map fun a=>Value.slice (some ⟨(fun a=>if a=m then wd.heap.size else gr a) a,0,none⟩) n n)++List.replicate (n - (m+1)) (.slice none 0 0):=by
   have:=set_mid (f:=fun a=>Value.slice (some ⟨(fun a=>if a=m then wd.heap.size else gr a) a,0,none⟩) n n) (z:=Value.slice none 0 0) hlt;simp only[if_true]at this
   simpa using this
  have hmm:((List.range m).map fun a=>Value.slice (some ⟨gr a,0,none⟩) n n)=((List.range m).map fun a=>Value.slice (some ⟨(fun a=>if a=m then wd.heap.size else gr a) a,0,none⟩) n n):=(map_upd (f:=fun a=>Value.slice (some ⟨gr a,0,none⟩) n n) (fun a ha=>by simp only[if_neg (Nat.ne_of_lt ha)])).symm;rw[hmm,hw8]at W8
  have M8:BegM (w7.setCell ⟨gw,m,none⟩ (.slice (some ⟨wd.heap.size,0,none⟩) n n)) w.heap.size n (m+1) gG gn gw (fun a=>if a=m then wd.heap.size else gr a) (m+1):=by
   refine⟨hk8.box M7.box (by decide),M7.nodes.kept hk8 ⟨by decide,by decide,by decide,by decide,by decide⟩ (by decide),W8,fun a ha=>?_,fun a b ha hb hab=>?_⟩
   ·by_cases hc:a=m
    ·simp only[if_pos hc];refine⟨by omega,?_⟩;rw[HZW.out];exact hk8.box X7 (by decide)
    simp only[if_neg hc];exact⟨(M7.rows a (by omega)).1,hk8.box (M7.rows a (by omega)).2 (by decide)⟩
   by_cases hc:a=m
   ·by_cases hd:b=m
    ·omega
    simp only[if_pos hc,if_neg hd]at hab;have:=hold b (by omega);omega
   by_cases hd:b=m
   ·simp only[if_neg hc,if_pos hd]at hab;have:=hold a (by omega);omega
   simp only[if_neg hc,if_neg hd]at hab;exact M7.inj a b (by omega) (by omega) hab
  have R8:=hk8.box R7 (by decide);have HB8:=(HB6.trans (hg7.mono hs6w)).setCell (p:=⟨gw,m,none⟩) hbw (.slice (some ⟨wd.heap.size,0,none⟩) n n);have c0:w7.cell? ⟨gw,m,none⟩=some (.slice none 0 0):=M7.way.get m (by rw[List.getElem?_append_right (by simp),List.length_map,List.length_range,Nat.sub_self,List.getElem?_replicate,if_pos (by omega)]);have f0:=M7.way.free m;have hs8:(w7.setCell ⟨gw,m,none⟩ (.slice (some ⟨wd.heap.size,0,none⟩) n n)).cell? ⟨gG,0,none⟩=some (.slice (some ⟨gn,0,none⟩) n n)∧(w7.setCell ⟨gw,m,none⟩ (.slice (some ⟨wd.heap.size,0,none⟩) n n)).cell? ⟨gG,1,none⟩=some (.slice (some ⟨gw,0,none⟩) n n):=⟨M8.box.get 0 rfl,M8.box.get 1 rfl⟩;refine wr 7 fun K hK=>?_;go_simp;refine hK.out _ _ hs8 (fun _=>?_);clear hK K hs8 c0 f0
  try simp only[Act.put,Zt,Zs,Zr]
  refine wpAnyH_done (by kernel_rfl) ?_ _;have HM8:=Za M8;have HR8:=Za R8;have HHB8:=Za HB8;clear M8 R8 HB8 M7 R7 X7 W8 hw8 hmm
  go_wp2_with fail
  go_roundw
  case rel=>exact⟨m+1,_,by omega,by go_num,HM8,HR8,HHB8⟩
  case measure=>simp[intOf];omega
 have hmn2:m=n:=by omega
 have hlt':¬(m:Int)<(n:Int):=by omega
 subst hmn2;have HD:=Za (Mm.done h6 hbn hbw);obtain⟨g0,g1,g2⟩:=Mm.box.c3;have r0:=Rm.get 0 rfl;have s0:=Rm.free 0;have r1:=Rm.get 1 rfl;have s1:=Rm.free 1;have r2:=Rm.get 2 rfl;have s2:=Rm.free 2;have hne:gG≠w.heap.size:=by omega
 go_wp2_with fail
 have k0:=Yt Rm.out 0 (.slice (some ⟨gn,0,none⟩) m m);have b0:=Rm.set 0 (.slice (some ⟨gn,0,none⟩) m m);have k1:=Yt b0 1 (.slice (some ⟨gw,0,none⟩) m m);have b1:=b0.set 1 (.slice (some ⟨gw,0,none⟩) m m);have k2:=Yt b1 2 (.slice none 0 0);have b2:=b1.set 2 (.slice none 0 0);have hk:=(k0.trans k1).trans k2;refine bodyPost_ret (results_cell_row rfl _ _ w.heap.size 95 _ (0,0) _ rfl b2 Tryz.underlying95 rfl Tryz.sizeGoing) rfl ⟨_,_,rfl,⟨_,HD.kept hk ⟨by decide,by decide,by decide,by decide,by decide⟩ (by decide) (by decide) (by decide) (by decide)⟩,?_⟩
 exact((HBm.setCell (p:=⟨w.heap.size,0,none⟩) (nlr _) _).setCell (p:=⟨w.heap.size,1,none⟩) (nlr _) _).setCell (p:=⟨w.heap.size,2,none⟩) (nlr _) _
end Go.Proofs.YtfhecilhcofboaaGreat
/- world.Play. -/
namespace Go.Proofs.YtfhecilhcofboaaGreat
open Go.RowKit

theorem Uh{P:Program}{fn:Func}{p q r:Tmp}{ty:TypeId}(h:fn.results=#[.cell p ty,.tmp q,.tmp r])(tmps:Array Value)(w:World)(g:Nat)(t:TypeId)(cs:Array Value)(fr:Nat×Nat)(d:TypeDesc)
  (hp:tmps.getD p undef=.pointer (some ⟨g,0,none⟩)) (hg:w.heap[g]? =some (.cells cs t fr))
  (hu:P.underlying ty=some d) (hd:(match d with| .struct _| .array _ _=>true|_=>false)=true) (hi:(P.info? ty).map (·.size)=some cs.size):
  (results fn tmps).run P w=.ok (.tuple #[.agg cs,tmps.getD q undef,tmps.getD r undef]) w:=by
 have hp':tmps[p]?.getD undef=.pointer (some ⟨g,0,none⟩):=by simpa using hp
 simp[results,h,hp',asAddr,run_loadVar_row w g t ty cs fr d hg hu hd hi]
theorem Tryz.sizeWorld:(Tryz.prog.info? 52).map (·.size)=some 2:=by kernel_rfl
theorem Tryz.infoErrno:(Tryz.prog.info? 36).map (fun i=>(i.zero,i.size,i.bytes))=some (some (.int .i64 0),1,8):=by kernel_rfl
def DoAt(w:World)(b off:Nat)(o:DoS):Prop:=∃sv,Row w sv o.upd.seen∧w.cell? ⟨b,off,none⟩=some (.int .i64 o.kind)∧w.cell? ⟨b,off+1,none⟩=some (.int .i64 o.n)∧w.cell? ⟨b,off+2,none⟩=some (.int .i64 o.dst)∧w.cell? ⟨b,off+3,none⟩=some (.int .i64 o.upd.author)∧w.cell? ⟨b,off+4,none⟩=some sv∧w.cell? ⟨b,off+5,none⟩=some (.int .i64 o.upd.kind)∧w.cell? ⟨b,off+6,none⟩=some (.int .i64 o.upd.key)∧w.cell? ⟨b,off+7,none⟩=some (.int .i64 o.upd.item)
def DoV(w:World)(v:Value)(l:List DoS):Prop:=
 ∃(a:Option Addr) (cap:Nat),v=.slice a l.length cap∧l.length≤cap∧cap≤maxLen∧∀(i:Nat) (o:DoS),l[i]? =some o→∃b off,a=some ⟨b,off,none⟩∧DoAt w b (off+i*8) o
theorem DoV.len_le{w:World}{v:Value}{l:List DoS}(h:DoV w v l):l.length≤9223372036854775807:=by
 obtain⟨a,cap,h1,h2,h3,h4⟩:=h;unfold maxLen at h3;omega
theorem DoAt.below{w w':World}{b off:Nat}{o:DoS}(h:DoAt w b off o){B:Nat}(hb:Below B w w')(hB:w.heap.size≤B):DoAt w' b off o:=by
 obtain⟨sv,h0,c0,c1,c2,c3,c4,c5,c6,c7⟩:=h;have hc:∀m x,w.cell? ⟨b,m,none⟩=some x→w'.cell? ⟨b,m,none⟩=some x:=fun m x hm=>(hb.cell (p:=⟨b,m,none⟩) (Nat.lt_of_lt_of_le (World.block_lt_of_cell? w _ hm) hB)).trans hm;exact⟨sv,h0.below hb hB,hc _ _ c0,hc _ _ c1,hc _ _ c2,hc _ _ c3,hc _ _ c4,hc _ _ c5,hc _ _ c6,hc _ _ c7⟩
theorem DoV.below{w w':World}{v:Value}{l:List DoS}(h:DoV w v l){B:Nat}(hb:Below B w w')(hB:w.heap.size≤B):DoV w' v l:=by
 obtain⟨a,cap,h1,h2,h3,h4⟩:=h;refine⟨a,cap,h1,h2,h3,fun i o hi=>?_⟩;obtain⟨b,off,e,hd⟩:=h4 i o hi;exact⟨b,off,e,hd.below hb hB⟩
def playWE(n:Int)(l:List DoS):Int:=if n<1∨6<n∨150<l.length then 5 else 0
def playWX(n:Int)(l:List DoS):WdS:=if playWE n l=0 then runX (Uy n.toNat) l else⟨[],[]⟩
def playWC(n:Int)(l:List DoS):List Int:=if playWE n l=0 then runE (Uy n.toNat) l else[]
def Uz(w:World)(B:Nat)(v:Value)(W:WdS):Prop:=(∃gn gw gr rv,v=.agg #[.slice (some ⟨gn,0,none⟩) W.nodes.length W.nodes.length,.slice (some ⟨gw,0,none⟩) W.nodes.length W.nodes.length]∧WdX w B W gn gw gr rv none)∨(v=.agg #[.slice none 0 0,.slice none 0 0]∧W=⟨[],[]⟩)
theorem WdX.base{w:World}{B C:Nat}{W:WdS}{gn gw:Nat}{gr:Nat→Nat}{rv:Nat→List Value}{ex:Option (Nat×Nat)}(h:WdX w B W gn gw gr rv ex)(hB:C≤B):WdX w C W gn gw gr rv ex:=by
 refine⟨h.few,h.wl,h.wr,Nat.le_trans hB h.bn,Nat.le_trans hB h.bw,?_,h.way,fun a ha=>⟨Nat.le_trans hB (h.rows a ha).1,(h.rows a ha).2⟩,h.inj,fun a b ha hb he=>?_,h.apart⟩
 ·obtain⟨ns,h1,h2,h3,h4⟩:=h.nodes;refine⟨ns,h1,h2,h3,fun i d hd=>?_⟩;obtain⟨x0,x1,x2,x3,x4,x5,x6,e,hn⟩:=h4 i d hd;exact⟨x0,x1,x2,x3,x4,x5,x6,e,hn.base hB⟩
 obtain⟨qs,h1,h2,h3⟩:=h.pcl a b ha hb he;refine⟨qs,h1.base hB,h2,fun q hq=>?_⟩;obtain⟨x0,x1,x2,x3,x4,x5,e,hp⟩:=h3 q hq;exact⟨x0,x1,x2,x3,x4,x5,e,hp.base hB⟩
theorem Uz.drew{w:World}{B:Nat}{v:Value}{W:WdS}(h:Uz w B v W):Uz w.drew B v W:=by
 rcases h with⟨gn,gw,gr,rv,e,hx⟩|h
 ·exact .inl ⟨gn,gw,gr,rv,e,hx.below (Zf (Zi w))⟩
 exact .inr h
def Qt(w:World)(B:Nat)(v:Value)(es:List Int):Prop:=w.ownsRow B 36 1 v es.length (es.map (Value.int .i64))
theorem Qt.form{w:World}{B:Nat}{v:Value}{es:List Int}(h:Qt w B v es):∃a c,v=.slice a es.length c:=by
 rcases h.2 with⟨rfl,h0⟩|⟨g,cap,cur,rfl,-⟩
 ·exact⟨none,0,by rw[h0]⟩
 exact⟨_,_,rfl⟩
theorem keepsE{w w':World}{B:Nat}{v:Value}{es:List Int}(h:Qt w B v es)(hg:w.grownBy w' v.ownBlock):Keeps [36] w w':=by
 rcases h.2 with⟨rfl,-⟩|⟨g,cap,cur,rfl,-,hc,-⟩
 ·exact keeps_grown0 hg
 exact keeps_grown hc hg
theorem GoX.kept{S:List TypeId}{w w':World}{B g:Nat}{W:WdS}{gn gw:Nat}{gr:Nat→Nat}{rv:Nat→List Value}{cv:Value}(h:GoX w B g W gn gw gr rv cv)(hk:Keeps S w w')(hf:Far S)(h0:95 ∉ S)(h1:31 ∉ S)(h2:100 ∉ S)(h3:103 ∉ S)(h4:35 ∉ S):GoX w' B g W gn gw gr rv cv:=⟨hk.box h.box h0,h.bg,h.x.kept hk hf h1 h2 h3 h4⟩
theorem GoX.came{w:World}{B g:Nat}{W:WdS}{gn gw:Nat}{gr:Nat→Nat}{rv:Nat→List Value}{cv:Value}(h:GoX w B g W gn gw gr rv cv)(v:Value):GoX (w.setCell ⟨g,2,none⟩ v) B g W gn gw gr rv v∧Keeps [95] w (w.setCell ⟨g,2,none⟩ v):=by
 have hk:=Yt h.box 2 v;exact⟨⟨h.box.set 2 v,h.bg,h.x.kept hk ⟨by decide,by decide,by decide,by decide,by decide⟩ (by decide) (by decide) (by decide) (by decide)⟩,hk⟩

set_option maxRecDepth 100000 in
set_option maxHeartbeats 8000000 in
theorem play_w(n:Int)(lv:Value)(l:List DoS)(w:World)(hl:DoV w lv l):
  Calls Tryz.prog 19 #[.int .i64 n,lv] w fun e w'=>∃wv cv,e=.returned (.tuple #[wv,cv,.int .i64 (playWE n l)])∧Uz w' w.heap.size wv (playWX n l)∧Qt w' w.heap.size cv (playWC n l)∧Below w.heap.size w w':=by
 have hlen:=hl.len_le;have HL:=Za hl;obtain⟨la,lc,rfl,-,-,-⟩:=hl;have hb0:=bpl w (.cells #[.slice none 0 0,.slice none 0 0] 52);have R0:=Za (Box.new w [.slice none 0 0,.slice none 0 0] 52);obtain⟨W1,HW1⟩:∃W1,Hid (w.alloc (.cells #[.slice none 0 0,.slice none 0 0] 52)=W1):=⟨_,rfl⟩;have hsz:Hid (W1.heap.size=w.heap.size+1):=by unfold Hid;rw[←HW1.out,World.size_alloc]
 rw[HW1.out]at hb0 R0;have HB0:=Za hb0;clear hb0;obtain⟨E,HE⟩:∃E,Hid (playWE n l=E):=⟨_,rfl⟩;obtain⟨X,HX⟩:∃X,Hid (playWX n l=X):=⟨_,rfl⟩;obtain⟨C,HC⟩:∃C,Hid (playWC n l=C):=⟨_,rfl⟩;rw[HE.out,HX.out,HC.out];unfold playWX at HX;unfold playWC at HC;rw[HE.out]at HX HC;unfold playWE at HE
 by_cases hbad:n<1∨6<n∨150<l.length
 ·rw[if_pos hbad]at HE;have hE:=HE.out;subst hE;have hX:(⟨[],[]⟩:WdS)=X:=HX.out;have hC:([]:List Int)=C:=HC.out;subst hX;subst hC;have HV:Hid (∀w',Uz w' w.heap.size (.agg #[.slice none 0 0,.slice none 0 0]) ⟨[],[]⟩):=fun w'=>.inr ⟨rfl,rfl⟩;have HV2:Hid (∀w',Qt w' w.heap.size (.slice none 0 0) []):=fun w'=>World.ownsRow_nil _ _ _ _
  by_cases h1:n<1
  ·clear hbad
   go_enter Tryz.func19,Tryz.ntmps19
   go_upto_region 1 with fail
   rw[HW1.out];have r0:=R0.get 0 rfl;have s0:=R0.free 0;have r1:=R0.get 1 rfl;have s1:=R0.free 1
   go_wp2_with fail
   have hR:=(R0.set 0 (.slice none 0 0)).set 1 (.slice none 0 0);refine bodyPost_ret (Uh rfl _ _ w.heap.size 52 _ (0,0) _ rfl hR Tryz.underlying52 rfl Tryz.sizeWorld) rfl ⟨_,_,rfl,HV.out _,HV2.out _,?_⟩
   exact(HB0.setCell (p:=⟨w.heap.size,0,none⟩) (nlr _) _).setCell (p:=⟨w.heap.size,1,none⟩) (nlr _) _
  by_cases h2:6<n
  ·have h2':n > 6:=h2;clear hbad
   go_enter Tryz.func19,Tryz.ntmps19
   go_upto_region 1 with fail
   rw[HW1.out];have r0:=R0.get 0 rfl;have s0:=R0.free 0;have r1:=R0.get 1 rfl;have s1:=R0.free 1
   go_wp2_with fail
   have hR:=(R0.set 0 (.slice none 0 0)).set 1 (.slice none 0 0);refine bodyPost_ret (Uh rfl _ _ w.heap.size 52 _ (0,0) _ rfl hR Tryz.underlying52 rfl Tryz.sizeWorld) rfl ⟨_,_,rfl,HV.out _,HV2.out _,?_⟩
   exact(HB0.setCell (p:=⟨w.heap.size,0,none⟩) (nlr _) _).setCell (p:=⟨w.heap.size,1,none⟩) (nlr _) _
  have h3:(l.length:Int) > 150:=by omega
  have h3':150<(l.length:Int):=by omega
  have h2':¬(n > 6):=h2;clear hbad
  go_enter Tryz.func19,Tryz.ntmps19
  go_upto_region 1 with fail
  rw[HW1.out];have r0:=R0.get 0 rfl;have s0:=R0.free 0;have r1:=R0.get 1 rfl;have s1:=R0.free 1
  go_wp2_with fail
  have hR:=(R0.set 0 (.slice none 0 0)).set 1 (.slice none 0 0);refine bodyPost_ret (Uh rfl _ _ w.heap.size 52 _ (0,0) _ rfl hR Tryz.underlying52 rfl Tryz.sizeWorld) rfl ⟨_,_,rfl,HV.out _,HV2.out _,?_⟩
  exact(HB0.setCell (p:=⟨w.heap.size,0,none⟩) (nlr _) _).setCell (p:=⟨w.heap.size,1,none⟩) (nlr _) _
 rw[if_neg hbad]at HE;have hE:=HE.out;subst hE;rw[if_pos rfl]at HX HC;obtain⟨k,hk⟩:∃k:Nat,n=k:=⟨n.toNat,by omega⟩;subst hk;rw[Int.toNat_natCast]at HX HC;have c1:¬((k:Int)<1):=by omega
 have c2:¬((k:Int) > 6):=by omega
 have c2':¬(6<(k:Int)):=by omega
 have c3:¬((l.length:Int) > 150):=by omega
 have c3':¬(150<(l.length:Int)):=by omega
 have hl150:l.length≤150:=by omega
 have hk1:1≤k:=by omega
 have hk6:k≤6:=by omega
 obtain⟨W0,HW0⟩:∃W0,Hid (Uy k=W0):=⟨_,rfl⟩;have hn0:W0.nodes.length=k:=by rw[←HW0.out];exact begin_len k
 have HN0:=Za hn0;rw[HW0.out]at HX HC;clear hbad HE hn0
 go_enter Tryz.func19,Tryz.ntmps19
 go_upto_region 1 with fail
 rw[HW1.out]
 go_wp2_with fail
 refine(begin_w k W1 hk1 hk6).mono ?_;rintro e w2 ⟨gn,gw,rfl,⟨gr,hx⟩,hb2⟩;rw[HW0.out]at hx;have hbp:=bpl w2 (.cells #[.slice (some ⟨gn,0,none⟩) k k,.slice (some ⟨gw,0,none⟩) k k,.slice none 0 0] 95);have hb3:=Zb hb2 hbp
 have G3:GoX (w2.alloc (.cells #[.slice (some ⟨gn,0,none⟩) k k,.slice (some ⟨gw,0,none⟩) k k,.slice none 0 0] 95)) W1.heap.size w2.heap.size W0 gn gw gr (fun _=>List.replicate k (.slice none 0 0)) (.slice none 0 0):=by
  refine⟨?_,hb2.size,hx.below hbp⟩;rw[HN0.out];exact Box.new w2 [.slice (some ⟨gn,0,none⟩) k k,.slice (some ⟨gw,0,none⟩) k k,.slice none 0 0] 95
 obtain⟨W3,HW3⟩:∃W3,Hid (w2.alloc (.cells #[.slice (some ⟨gn,0,none⟩) k k,.slice (some ⟨gw,0,none⟩) k k,.slice none 0 0] 95)=W3):=⟨_,rfl⟩;rw[HW3.out]at hb3 G3;have R3:=Za (R0.below hb3 (nlr _));have HB3:Hid (Below w.heap.size w W3):=Zb HB0.out hb3;have HG3:=Za G3;have hs2:Hid (W1.heap.size≤w2.heap.size):=hb2.size;clear hx hb2 hbp hb3 G3 R0 HB0
 go_wp2_with fail
 rw[HW3.out]
 go_loopw [26] (fun q wr=>∃(m:Nat) (rv:Nat→List Value) (cv:Value),m≤l.length∧q=.int .i64 m∧Hid (GoX wr W1.heap.size w2.heap.size (runX W0 (l.take m)) gn gw gr rv cv)∧Hid (Qt wr W1.heap.size cv (runE W0 (l.take m)))∧Hid (Box wr w.heap.size [.slice none 0 0,.slice none 0 0] 52)∧Hid (Below w.heap.size w wr)) (fun q _=>l.length - (intOf q).toNat)
 case atStart=>exact⟨0,_,_,Nat.zero_le _,rfl,HG3,World.ownsRow_nil _ _ _ _,R3,HB3⟩
 obtain⟨m,rv,cv,hm,rfl,Gm,Cm,Rm,HBm⟩:=hrel;obtain⟨w4,rfl⟩:∃w4,w4=wr:=⟨wr,rfl⟩;clear HG3 R3 HB3;obtain⟨Wm,HWM⟩:∃Wm,Hid (runX W0 (l.take m)=Wm):=⟨_,rfl⟩;obtain⟨es,HES⟩:∃es,Hid (runE W0 (l.take m)=es):=⟨_,rfl⟩;have hel:es.length=m:=by rw[←HES.out,runE_length,List.length_take];omega
 have hel2:es.length≤150:=by omega
 clear hel;have hwl:Wm.nodes.length=k:=by rw[←HWM.out,runX_len];exact HN0.out
 have HWL:=Za hwl;rw[HWM.out]at Gm;rw[HES.out]at Cm;clear hwl;obtain⟨ca,cc,hcv⟩:=Cm.form;subst hcv;have hgl:=Gm.box.lt;have hsz':=hsz.out;have hs2':=hs2.out
 by_cases hlt:m<l.length
 ·have hlt':(m:Int)<(l.length:Int):=by omega
  obtain⟨o,ho⟩:∃o,l[m]? =some o:=⟨_,List.getElem?_eq_getElem hlt⟩;have hX1:Hid (runX W0 (l.take (m+1))=stepX Wm o):=by unfold Hid;rw[take_snoc ho,runX_snoc,HWM.out]
  have hE1:Hid (runE W0 (l.take (m+1))=es++[Xk Wm o]):=by unfold Hid;rw[take_snoc ho,runE_snoc,HWM.out,HES.out]
  obtain⟨la',lc',hlv,-,-,hat⟩:=HL.out;simp only[Value.slice.injEq,true_and]at hlv;obtain⟨rfl,rfl⟩:=hlv;obtain⟨b,off,rfl,hd⟩:=hat m o ho;clear hat ho;have hd4:=hd.below HBm.out (nlr _);obtain⟨sv,hrow,q0,q1,q2,q3,q4,q5,q6,q7⟩:=hd4;obtain⟨sa,sc,rfl,-⟩:=id hrow;have hbp:=bpl w4 (.cells #[.int .i64 o.kind,.int .i64 o.n,.int .i64 o.dst,.int .i64 o.upd.author,.slice sa o.upd.seen.length sc,.int .i64 o.upd.kind,.int .i64 o.upd.key,.int .i64 o.upd.item] 98);have D5:=Box.new w4 [.int .i64 o.kind,.int .i64 o.n,.int .i64 o.dst,.int .i64 o.upd.author,.slice sa o.upd.seen.length sc,.int .i64 o.upd.kind,.int .i64 o.upd.key,.int .i64 o.upd.item] 98;have G5:=Gm.below hbp;have C5:Qt (w4.alloc (.cells #[.int .i64 o.kind,.int .i64 o.n,.int .i64 o.dst,.int .i64 o.upd.author,.slice sa o.upd.seen.length sc,.int .i64 o.upd.kind,.int .i64 o.upd.key,.int .i64 o.upd.item] 98)) W1.heap.size (.slice ca es.length cc) es:=Zp Cm.out hbp (nlr _);have V5:IsDo (w4.alloc (.cells #[.int .i64 o.kind,.int .i64 o.n,.int .i64 o.dst,.int .i64 o.upd.author,.slice sa o.upd.seen.length sc,.int .i64 o.upd.kind,.int .i64 o.upd.key,.int .i64 o.upd.item] 98)) (.agg #[.int .i64 o.kind,.int .i64 o.n,.int .i64 o.dst,.int .i64 o.upd.author,.slice sa o.upd.seen.length sc,.int .i64 o.upd.kind,.int .i64 o.upd.key,.int .i64 o.upd.item]) o:=⟨_,rfl,hrow.below hbp (nlr _)⟩;have R5:=Rm.below hbp (nlr _);obtain⟨W5,HW5⟩:∃W5,Hid (w4.alloc (.cells #[.int .i64 o.kind,.int .i64 o.n,.int .i64 o.dst,.int .i64 o.upd.author,.slice sa o.upd.seen.length sc,.int .i64 o.upd.kind,.int .i64 o.upd.key,.int .i64 o.upd.item] 98)=W5):=⟨_,rfl⟩;rw[HW5.out]at hbp D5 G5 C5 V5 R5;have HB5:Hid (Below w.heap.size w W5):=Zb HBm.out hbp;have HD5:=Za D5;have HG5:=Za G5;have HC5:=Za C5;have HV5:=Za V5;have HR5:=Za R5;have hs5:Hid (W1.heap.size≤W5.heap.size):=by have:=hbp.size;unfold Hid;omega
  have hs45:Hid (w4.heap.size<W5.heap.size):=D5.lt;clear hd hrow hbp D5 G5 C5 V5 R5;obtain⟨i0,hi,hz0,hz1,hz2⟩:=info_parts Tryz.infoErrno
  go_upto_region 7 with fail
  rw[HW5.out];clear q0 q1 q2 q3 q4 q5 q6 q7;refine wp_region_held_drew (S:=fun w'=>w'.cell? ⟨w4.heap.size,0,none⟩=some (.int .i64 o.kind)∧w'.cell? ⟨w4.heap.size,1,none⟩=some (.int .i64 o.n)∧w'.cell? ⟨w4.heap.size,2,none⟩=some (.int .i64 o.dst)∧w'.cell? ⟨w4.heap.size,3,none⟩=some (.int .i64 o.upd.author)∧w'.cell? ⟨w4.heap.size,4,none⟩=some (.slice sa o.upd.seen.length sc)∧w'.cell? ⟨w4.heap.size,5,none⟩=some (.int .i64 o.upd.kind)∧w'.cell? ⟨w4.heap.size,6,none⟩=some (.int .i64 o.upd.key)∧w'.cell? ⟨w4.heap.size,7,none⟩=some (.int .i64 o.upd.item)) (by kernel_rfl) ⟨HD5.drew.get 0 rfl,HD5.drew.get 1 rfl,HD5.drew.get 2 rfl,HD5.drew.get 3 rfl,HD5.drew.get 4 rfl,HD5.drew.get 5 rfl,HD5.drew.get 6 rfl,HD5.drew.get 7 rfl⟩ (fun hHeld=>?_);obtain⟨wd,HWD⟩:∃wd,Hid (W5.drew=wd):=⟨_,rfl⟩;have hgd:Zh W5 wd:=by rw[←HWD.out];exact Zf (Zi W5)
  rw[HWD.out]at hHeld ⊢;have Gd:=HG5.below hgd;have Cd:Qt wd W1.heap.size (.slice ca es.length cc) es:=Zp HC5.out hgd (nlr _);have Dd:=HD5.below hgd (nlr _);have Vd:=HV5.below hgd (nlr _);have Rd:=HR5.below hgd (nlr _);have HBd:Below w.heap.size w wd:=Zb HB5.out hgd;have hsd:W1.heap.size≤wd.heap.size:=by have:=hs5.out;have:=hgd.size;omega
  refine ty 0 (.pointer (some ⟨w2.heap.size,2,none⟩)) ?_;refine ty 2 (.agg #[.int .i64 o.kind,.int .i64 o.n,.int .i64 o.dst,.int .i64 o.upd.author,.slice sa o.upd.seen.length sc,.int .i64 o.upd.kind,.int .i64 o.upd.key,.int .i64 o.upd.item]) ?_;refine wpAnyH_ready (rs:=[1,3]) (by kernel_rfl) (by simp) ?_;refine(rdc rfl (fun K hK=>?_) (rd1 rfl (fun K hK=>?_)))
  ·skip
   have ccx1:=Gd.box.get 2 rfl;go_simp;refine hK.out _ _ ⟨Dd.get 0 rfl,Dd.get 1 rfl,Dd.get 2 rfl,Dd.get 3 rfl,Dd.get 4 rfl,Dd.get 5 rfl,Dd.get 6 rfl,Dd.get 7 rfl⟩ (fun _=>?_);clear hK K
   try simp only[Act.put,Zt,Zs,Zr]
   refine wr 3 fun K hK=>?_;go_simp;refine(happen_w wd W1.heap.size w2.heap.size Wm gn gw gr rv (.slice ca es.length cc) _ o Gd Vd hsd).mono ?_;rintro e wcx1x3 ⟨rfl,⟨rvx1x3,hxx1x3⟩,hkx1x3,hbx1x3⟩;have Cx1x3:Qt wcx1x3 W1.heap.size (.slice ca es.length cc) es:=hkx1x3.row Cd (by decide);have Dx1x3:=hkx1x3.box Dd (by decide);have Rx1x3:=hkx1x3.box Rd (by decide);have Bx1x3:Below w.heap.size w wcx1x3:=HBd.trans (hbx1x3.mono (by omega));have Sx1x3:W1.heap.size≤wcx1x3.heap.size:=by have:=hbx1x3.size;omega
   refine hK.out _ _ ⟨Dx1x3.get 0 rfl,Dx1x3.get 1 rfl,Dx1x3.get 2 rfl,Dx1x3.get 3 rfl,Dx1x3.get 4 rfl,Dx1x3.get 5 rfl,Dx1x3.get 6 rfl,Dx1x3.get 7 rfl⟩ (fun _=>?_);clear hK K
   try simp only[Act.put,Zt,Zs,Zr]
   refine wr 4 fun K hK=>?_;go_simp;have hbx1x3x4:=bpl wcx1x3 (.cells #[.int .i64 (Xk Wm o)] 36);have Nx1x3x4:=Box.new wcx1x3 [.int .i64 (Xk Wm o)] 36;obtain⟨wbx1x3x4,HNx1x3x4⟩:∃W,Hid (wcx1x3.alloc (.cells #[.int .i64 (Xk Wm o)] 36)=W):=⟨_,rfl⟩;rw[HNx1x3x4.out]at hbx1x3x4 Nx1x3x4 ⊢;have Gx1x3x4:=hxx1x3.below hbx1x3x4;have Cx1x3x4:Qt wbx1x3x4 W1.heap.size (.slice ca es.length cc) es:=Zp Cx1x3 hbx1x3x4 (nlr _);have Dx1x3x4:=Dx1x3.below hbx1x3x4 (nlr _);have Rx1x3x4:=Rx1x3.below hbx1x3x4 (nlr _);have Bx1x3x4:Below w.heap.size w wbx1x3x4:=Zb Bx1x3 hbx1x3x4;have Sx1x3x4:W1.heap.size≤wbx1x3x4.heap.size:=by have:=hbx1x3x4.size;omega
   refine hK.out _ _ ⟨Dx1x3x4.get 0 rfl,Dx1x3x4.get 1 rfl,Dx1x3x4.get 2 rfl,Dx1x3x4.get 3 rfl,Dx1x3x4.get 4 rfl,Dx1x3x4.get 5 rfl,Dx1x3x4.get 6 rfl,Dx1x3x4.get 7 rfl⟩ (fun _=>?_);clear hK K
   try simp only[Act.put,Zt,Zs,Zr]
   refine wr 5 fun K hK=>?_;refine Xn rfl (.tmp 31) (.tmp 34) 53 53 rfl W1.heap.size 36 i0 (.int .i64 0) 1 8 Tryz.underlying53 hi hz0 hz1 hz2 rfl (.slice ca es.length cc) es.length (es.map (Value.int .i64)) rfl Cx1x3x4 (.slice (some ⟨wcx1x3.heap.size,0,none⟩) 1 1) rfl 1 [.int .i64 (Xk Wm o)] (Src.ofSlice wbx1x3x4 Tryz.underlying53 ⟨wcx1x3.heap.size,0,none⟩ 1 1 _ rfl Nx1x3x4.cellsAt (by intro q hq;simp only[List.mem_cons,List.not_mem_nil,or_false]at hq;rw[hq];rfl)) (by unfold maxLen;omega) (by omega) Sx1x3x4 ?_;intro v8 w8 hc8 hg8;have hk8:=keepsE Cx1x3x4 hg8;have hC8:Qt w8 W1.heap.size v8 (es++[Xk Wm o]):=by unfold Qt;rw[List.map_append,List.length_append];exact hc8
   obtain⟨a8,c8,hv8⟩:=hC8.form;subst hv8;have G8:=Gx1x3x4.kept hk8 ⟨by decide,by decide,by decide,by decide,by decide⟩ (by decide) (by decide) (by decide) (by decide) (by decide);have D8:=hk8.box Dx1x3x4 (by decide);have R8:=hk8.box Rx1x3x4 (by decide);have B8:Below w.heap.size w w8:=Bx1x3x4.grown hg8 (by omega) (fun q hq=>by have:=(Cx1x3x4.lt q hq).1;omega);refine hK.out _ _ ⟨D8.get 0 rfl,D8.get 1 rfl,D8.get 2 rfl,D8.get 3 rfl,D8.get 4 rfl,D8.get 5 rfl,D8.get 6 rfl,D8.get 7 rfl⟩ (fun _=>?_);clear hK K;simp only[Act.put,Zt];obtain⟨G9,hk9⟩:=G8.came (.slice a8 (es++[Xk Wm o]).length c8);have C9:Qt (w8.setCell ⟨w2.heap.size,2,none⟩ (.slice a8 (es++[Xk Wm o]).length c8)) W1.heap.size (.slice a8 (es++[Xk Wm o]).length c8) (es++[Xk Wm o]):=hk9.row hC8 (by decide);have D9:=hk9.box D8 (by decide);have R9:=hk9.box R8 (by decide);have B9:=B8.setCell (p:=⟨w2.heap.size,2,none⟩) (by show w.heap.size≤w2.heap.size;omega) (.slice a8 (es++[Xk Wm o]).length c8);have c2':=G8.box.get 2 rfl;have f2:=G8.box.free 2;refine ty 6 (.pointer (some ⟨w2.heap.size,2,none⟩)) ?_;refine wr 7 fun K hK=>?_;go_simp;obtain⟨W9,HW9⟩:∃W,Hid (w8.setCell ⟨w2.heap.size,2,none⟩ (.slice a8 (es++[Xk Wm o]).length c8)=W):=⟨_,rfl⟩;simp only[List.length_append,List.length_cons,List.length_nil]at HW9 G9 C9 D9 R9 B9;rw[HW9.out]at G9 C9 D9 R9 B9
   try rw[HW9.out]
   refine hK.out _ _ ⟨D9.get 0 rfl,D9.get 1 rfl,D9.get 2 rfl,D9.get 3 rfl,D9.get 4 rfl,D9.get 5 rfl,D9.get 6 rfl,D9.get 7 rfl⟩ (fun _=>?_);clear hK K c2' f2
   try simp only[Act.put,Zt,Zs,Zr]
   refine wpAnyH_done (by kernel_rfl) ?_ _;rw[←hX1.out]at G9;rw[←hE1.out]at C9;have HG9:=Za G9;have HC9:=Za C9;have HR9:=Za R9;have HB9:=Za B9;clear G9 C9 R9 B9 D9 G8 D8 R8 B8 hC8 hc8 hg8 hk8 hk9
   go_wp2_with fail
   go_roundw
   case rel=>exact⟨m+1,_,_,by omega,by go_num,HG9,HC9,HR9,HB9⟩
   case measure=>simp[intOf];omega
  skip
  go_simp;refine(happen_w wd W1.heap.size w2.heap.size Wm gn gw gr rv (.slice ca es.length cc) _ o Gd Vd hsd).mono ?_;rintro e wcx3 ⟨rfl,⟨rvx3,hxx3⟩,hkx3,hbx3⟩;have Cx3:Qt wcx3 W1.heap.size (.slice ca es.length cc) es:=hkx3.row Cd (by decide);have Dx3:=hkx3.box Dd (by decide);have Rx3:=hkx3.box Rd (by decide);have Bx3:Below w.heap.size w wcx3:=HBd.trans (hbx3.mono (by omega));have Sx3:W1.heap.size≤wcx3.heap.size:=by have:=hbx3.size;omega
  refine hK.out _ _ ⟨Dx3.get 0 rfl,Dx3.get 1 rfl,Dx3.get 2 rfl,Dx3.get 3 rfl,Dx3.get 4 rfl,Dx3.get 5 rfl,Dx3.get 6 rfl,Dx3.get 7 rfl⟩ (fun _=>?_);clear hK K
  try simp only[Act.put,Zt,Zs,Zr]
  refine wpAnyH_ready (rs:=[1,4]) (by kernel_rfl) (by simp) ?_;refine(rdc rfl (fun K hK=>?_) (rd1 rfl (fun K hK=>?_)))
  ·skip
   have ccx3x1:=hxx3.box.get 2 rfl;go_simp;refine hK.out _ _ ⟨Dx3.get 0 rfl,Dx3.get 1 rfl,Dx3.get 2 rfl,Dx3.get 3 rfl,Dx3.get 4 rfl,Dx3.get 5 rfl,Dx3.get 6 rfl,Dx3.get 7 rfl⟩ (fun _=>?_);clear hK K
   try simp only[Act.put,Zt,Zs,Zr]
   refine wr 4 fun K hK=>?_;go_simp;have hbx3x1x4:=bpl wcx3 (.cells #[.int .i64 (Xk Wm o)] 36);have Nx3x1x4:=Box.new wcx3 [.int .i64 (Xk Wm o)] 36;obtain⟨wbx3x1x4,HNx3x1x4⟩:∃W,Hid (wcx3.alloc (.cells #[.int .i64 (Xk Wm o)] 36)=W):=⟨_,rfl⟩;rw[HNx3x1x4.out]at hbx3x1x4 Nx3x1x4 ⊢;have Gx3x1x4:=hxx3.below hbx3x1x4;have Cx3x1x4:Qt wbx3x1x4 W1.heap.size (.slice ca es.length cc) es:=Zp Cx3 hbx3x1x4 (nlr _);have Dx3x1x4:=Dx3.below hbx3x1x4 (nlr _);have Rx3x1x4:=Rx3.below hbx3x1x4 (nlr _);have Bx3x1x4:Below w.heap.size w wbx3x1x4:=Zb Bx3 hbx3x1x4;have Sx3x1x4:W1.heap.size≤wbx3x1x4.heap.size:=by have:=hbx3x1x4.size;omega
   refine hK.out _ _ ⟨Dx3x1x4.get 0 rfl,Dx3x1x4.get 1 rfl,Dx3x1x4.get 2 rfl,Dx3x1x4.get 3 rfl,Dx3x1x4.get 4 rfl,Dx3x1x4.get 5 rfl,Dx3x1x4.get 6 rfl,Dx3x1x4.get 7 rfl⟩ (fun _=>?_);clear hK K
   try simp only[Act.put,Zt,Zs,Zr]
   refine wr 5 fun K hK=>?_;refine Xn rfl (.tmp 31) (.tmp 34) 53 53 rfl W1.heap.size 36 i0 (.int .i64 0) 1 8 Tryz.underlying53 hi hz0 hz1 hz2 rfl (.slice ca es.length cc) es.length (es.map (Value.int .i64)) rfl Cx3x1x4 (.slice (some ⟨wcx3.heap.size,0,none⟩) 1 1) rfl 1 [.int .i64 (Xk Wm o)] (Src.ofSlice wbx3x1x4 Tryz.underlying53 ⟨wcx3.heap.size,0,none⟩ 1 1 _ rfl Nx3x1x4.cellsAt (by intro q hq;simp only[List.mem_cons,List.not_mem_nil,or_false]at hq;rw[hq];rfl)) (by unfold maxLen;omega) (by omega) Sx3x1x4 ?_;intro v8 w8 hc8 hg8;have hk8:=keepsE Cx3x1x4 hg8;have hC8:Qt w8 W1.heap.size v8 (es++[Xk Wm o]):=by unfold Qt;rw[List.map_append,List.length_append];exact hc8
   obtain⟨a8,c8,hv8⟩:=hC8.form;subst hv8;have G8:=Gx3x1x4.kept hk8 ⟨by decide,by decide,by decide,by decide,by decide⟩ (by decide) (by decide) (by decide) (by decide) (by decide);have D8:=hk8.box Dx3x1x4 (by decide);have R8:=hk8.box Rx3x1x4 (by decide);have B8:Below w.heap.size w w8:=Bx3x1x4.grown hg8 (by omega) (fun q hq=>by have:=(Cx3x1x4.lt q hq).1;omega);refine hK.out _ _ ⟨D8.get 0 rfl,D8.get 1 rfl,D8.get 2 rfl,D8.get 3 rfl,D8.get 4 rfl,D8.get 5 rfl,D8.get 6 rfl,D8.get 7 rfl⟩ (fun _=>?_);clear hK K;simp only[Act.put,Zt];obtain⟨G9,hk9⟩:=G8.came (.slice a8 (es++[Xk Wm o]).length c8);have C9:Qt (w8.setCell ⟨w2.heap.size,2,none⟩ (.slice a8 (es++[Xk Wm o]).length c8)) W1.heap.size (.slice a8 (es++[Xk Wm o]).length c8) (es++[Xk Wm o]):=hk9.row hC8 (by decide);have D9:=hk9.box D8 (by decide);have R9:=hk9.box R8 (by decide);have B9:=B8.setCell (p:=⟨w2.heap.size,2,none⟩) (by show w.heap.size≤w2.heap.size;omega) (.slice a8 (es++[Xk Wm o]).length c8);have c2':=G8.box.get 2 rfl;have f2:=G8.box.free 2;refine ty 6 (.pointer (some ⟨w2.heap.size,2,none⟩)) ?_;refine wr 7 fun K hK=>?_;go_simp;obtain⟨W9,HW9⟩:∃W,Hid (w8.setCell ⟨w2.heap.size,2,none⟩ (.slice a8 (es++[Xk Wm o]).length c8)=W):=⟨_,rfl⟩;simp only[List.length_append,List.length_cons,List.length_nil]at HW9 G9 C9 D9 R9 B9;rw[HW9.out]at G9 C9 D9 R9 B9
   try rw[HW9.out]
   refine hK.out _ _ ⟨D9.get 0 rfl,D9.get 1 rfl,D9.get 2 rfl,D9.get 3 rfl,D9.get 4 rfl,D9.get 5 rfl,D9.get 6 rfl,D9.get 7 rfl⟩ (fun _=>?_);clear hK K c2' f2
   try simp only[Act.put,Zt,Zs,Zr]
   refine wpAnyH_done (by kernel_rfl) ?_ _;rw[←hX1.out]at G9;rw[←hE1.out]at C9;have HG9:=Za G9;have HC9:=Za C9;have HR9:=Za R9;have HB9:=Za B9;clear G9 C9 R9 B9 D9 G8 D8 R8 B8 hC8 hc8 hg8 hk8 hk9
   go_wp2_with fail
   go_roundw
   case rel=>exact⟨m+1,_,_,by omega,by go_num,HG9,HC9,HR9,HB9⟩
   case measure=>simp[intOf];omega
  skip
  go_simp;have hbx3x4:=bpl wcx3 (.cells #[.int .i64 (Xk Wm o)] 36);have Nx3x4:=Box.new wcx3 [.int .i64 (Xk Wm o)] 36;obtain⟨wbx3x4,HNx3x4⟩:∃W,Hid (wcx3.alloc (.cells #[.int .i64 (Xk Wm o)] 36)=W):=⟨_,rfl⟩;rw[HNx3x4.out]at hbx3x4 Nx3x4 ⊢;have Gx3x4:=hxx3.below hbx3x4;have Cx3x4:Qt wbx3x4 W1.heap.size (.slice ca es.length cc) es:=Zp Cx3 hbx3x4 (nlr _);have Dx3x4:=Dx3.below hbx3x4 (nlr _);have Rx3x4:=Rx3.below hbx3x4 (nlr _);have Bx3x4:Below w.heap.size w wbx3x4:=Zb Bx3 hbx3x4;have Sx3x4:W1.heap.size≤wbx3x4.heap.size:=by have:=hbx3x4.size;omega
  refine hK.out _ _ ⟨Dx3x4.get 0 rfl,Dx3x4.get 1 rfl,Dx3x4.get 2 rfl,Dx3x4.get 3 rfl,Dx3x4.get 4 rfl,Dx3x4.get 5 rfl,Dx3x4.get 6 rfl,Dx3x4.get 7 rfl⟩ (fun _=>?_);clear hK K
  try simp only[Act.put,Zt,Zs,Zr]
  refine wr 1 fun K hK=>?_;have ccx3x4x1:=Gx3x4.box.get 2 rfl;go_simp;refine hK.out _ _ ⟨Dx3x4.get 0 rfl,Dx3x4.get 1 rfl,Dx3x4.get 2 rfl,Dx3x4.get 3 rfl,Dx3x4.get 4 rfl,Dx3x4.get 5 rfl,Dx3x4.get 6 rfl,Dx3x4.get 7 rfl⟩ (fun _=>?_);clear hK K
  try simp only[Act.put,Zt,Zs,Zr]
  refine wr 5 fun K hK=>?_;refine Xn rfl (.tmp 31) (.tmp 34) 53 53 rfl W1.heap.size 36 i0 (.int .i64 0) 1 8 Tryz.underlying53 hi hz0 hz1 hz2 rfl (.slice ca es.length cc) es.length (es.map (Value.int .i64)) rfl Cx3x4 (.slice (some ⟨wcx3.heap.size,0,none⟩) 1 1) rfl 1 [.int .i64 (Xk Wm o)] (Src.ofSlice wbx3x4 Tryz.underlying53 ⟨wcx3.heap.size,0,none⟩ 1 1 _ rfl Nx3x4.cellsAt (by intro q hq;simp only[List.mem_cons,List.not_mem_nil,or_false]at hq;rw[hq];rfl)) (by unfold maxLen;omega) (by omega) Sx3x4 ?_;intro v8 w8 hc8 hg8;have hk8:=keepsE Cx3x4 hg8;have hC8:Qt w8 W1.heap.size v8 (es++[Xk Wm o]):=by unfold Qt;rw[List.map_append,List.length_append];exact hc8
  obtain⟨a8,c8,hv8⟩:=hC8.form;subst hv8;have G8:=Gx3x4.kept hk8 ⟨by decide,by decide,by decide,by decide,by decide⟩ (by decide) (by decide) (by decide) (by decide) (by decide);have D8:=hk8.box Dx3x4 (by decide);have R8:=hk8.box Rx3x4 (by decide);have B8:Below w.heap.size w w8:=Bx3x4.grown hg8 (by omega) (fun q hq=>by have:=(Cx3x4.lt q hq).1;omega);refine hK.out _ _ ⟨D8.get 0 rfl,D8.get 1 rfl,D8.get 2 rfl,D8.get 3 rfl,D8.get 4 rfl,D8.get 5 rfl,D8.get 6 rfl,D8.get 7 rfl⟩ (fun _=>?_);clear hK K;simp only[Act.put,Zt];obtain⟨G9,hk9⟩:=G8.came (.slice a8 (es++[Xk Wm o]).length c8);have C9:Qt (w8.setCell ⟨w2.heap.size,2,none⟩ (.slice a8 (es++[Xk Wm o]).length c8)) W1.heap.size (.slice a8 (es++[Xk Wm o]).length c8) (es++[Xk Wm o]):=hk9.row hC8 (by decide);have D9:=hk9.box D8 (by decide);have R9:=hk9.box R8 (by decide);have B9:=B8.setCell (p:=⟨w2.heap.size,2,none⟩) (by show w.heap.size≤w2.heap.size;omega) (.slice a8 (es++[Xk Wm o]).length c8);have c2':=G8.box.get 2 rfl;have f2:=G8.box.free 2;refine ty 6 (.pointer (some ⟨w2.heap.size,2,none⟩)) ?_;refine wr 7 fun K hK=>?_;go_simp;obtain⟨W9,HW9⟩:∃W,Hid (w8.setCell ⟨w2.heap.size,2,none⟩ (.slice a8 (es++[Xk Wm o]).length c8)=W):=⟨_,rfl⟩;simp only[List.length_append,List.length_cons,List.length_nil]at HW9 G9 C9 D9 R9 B9;rw[HW9.out]at G9 C9 D9 R9 B9
  try rw[HW9.out]
  refine hK.out _ _ ⟨D9.get 0 rfl,D9.get 1 rfl,D9.get 2 rfl,D9.get 3 rfl,D9.get 4 rfl,D9.get 5 rfl,D9.get 6 rfl,D9.get 7 rfl⟩ (fun _=>?_);clear hK K c2' f2
  try simp only[Act.put,Zt,Zs,Zr]
  refine wpAnyH_done (by kernel_rfl) ?_ _;rw[←hX1.out]at G9;rw[←hE1.out]at C9;have HG9:=Za G9;have HC9:=Za C9;have HR9:=Za R9;have HB9:=Za B9;clear G9 C9 R9 B9 D9 G8 D8 R8 B8 hC8 hc8 hg8 hk8 hk9
  go_wp2_with fail
  go_roundw
  case rel=>exact⟨m+1,_,_,by omega,by go_num,HG9,HC9,HR9,HB9⟩
  case measure=>simp[intOf];omega
 have hlt':¬(m:Int)<(l.length:Int):=by omega
 have htk:l.take m=l:=List.take_of_length_le (by omega);rw[htk]at HWM HES;have hX:X=Wm:=by rw[←HX.out];exact HWM.out
 have hC:C=es:=by rw[←HC.out];exact HES.out
 subst hX;subst hC;clear htk HWM HES;have HX9:=Za Gm.x;obtain⟨g0,g1,g2⟩:=Gm.box.c3;have r0:=Rm.get 0 rfl;have s0:=Rm.free 0;have r1:=Rm.get 1 rfl;have s1:=Rm.free 1;have hne:¬(w2.heap.size=w.heap.size):=by omega
 have hne':¬(w.heap.size=w2.heap.size):=by omega
 go_upto_region 9 with fail
 have k0:=Yt Rm.out 0 (.slice (some ⟨gn,0,none⟩) X.nodes.length X.nodes.length);have b0:=Rm.set 0 (.slice (some ⟨gn,0,none⟩) X.nodes.length X.nodes.length);have k1:=Yt b0 1 (.slice (some ⟨gw,0,none⟩) X.nodes.length X.nodes.length);have b1:=b0.set 1 (.slice (some ⟨gw,0,none⟩) X.nodes.length X.nodes.length);have hk:=k0.trans k1;have hxo:=hk.trans (Keeps.refl _ _);have hW:Uz ((w4.setCell ⟨w.heap.size,0,none⟩ (.slice (some ⟨gn,0,none⟩) X.nodes.length X.nodes.length)).setCell ⟨w.heap.size,1,none⟩ (.slice (some ⟨gw,0,none⟩) X.nodes.length X.nodes.length)) w.heap.size (.agg #[.slice (some ⟨gn,0,none⟩) X.nodes.length X.nodes.length,.slice (some ⟨gw,0,none⟩) X.nodes.length X.nodes.length]) X:=.inl ⟨gn,gw,gr,rv,rfl,(HX9.kept hk ⟨by decide,by decide,by decide,by decide,by decide⟩ (by decide) (by decide) (by decide) (by decide)).base (by omega)⟩;have hEr:Qt ((w4.setCell ⟨w.heap.size,0,none⟩ (.slice (some ⟨gn,0,none⟩) X.nodes.length X.nodes.length)).setCell ⟨w.heap.size,1,none⟩ (.slice (some ⟨gw,0,none⟩) X.nodes.length X.nodes.length)) w.heap.size (.slice ca C.length cc) C:=Zw (hk.row Cm.out (by decide)) (by omega);have hBl:=(HBm.setCell (p:=⟨w.heap.size,0,none⟩) (nlr _) (.slice (some ⟨gn,0,none⟩) X.nodes.length X.nodes.length)).setCell (p:=⟨w.heap.size,1,none⟩) (nlr _) (.slice (some ⟨gw,0,none⟩) X.nodes.length X.nodes.length);have HWo:=Za hW;have HEr:=Za hEr;have HBl:=Za hBl;have HB1:=Za b1.drew;clear hW hEr hBl k0 b0 k1 b1 hk hxo
 go_region
 go_wp2_with fail
 refine bodyPost_ret (Uh rfl _ _ w.heap.size 52 _ (0,0) _ rfl HB1.out Tryz.underlying52 rfl Tryz.sizeWorld) rfl ⟨_,_,rfl,HWo.drew,HEr.out,?_⟩;exact HBl.drew
end Go.Proofs.YtfhecilhcofboaaGreat
/- What stands Jd of each law of chapter 7; a world that is played, read. -/
namespace Go.Proofs.YtfhecilhcofboaaGreat
open Go.RowKit

theorem Uz.node{w:World}{B:Nat}{v:Value}{W:WdS}(h:Uz w B v W):∃a1 a2,v=.agg #[.slice a1 W.nodes.length W.nodes.length,.slice a2 W.nodes.length W.nodes.length]∧W.nodes.length≤6∧∀(i:Nat) (d:NdS),W.nodes[i]? =some d→∃gn,a1=some ⟨gn,0,none⟩∧∃x0 x1 x2 x3 x4 x5 x6,Yo w B (.agg #[x0,x1,x2,x3,x4,x5,x6]) d∧w.cell? ⟨gn,i*7,none⟩=some x0∧w.cell? ⟨gn,i*7+1,none⟩=some x1∧w.cell? ⟨gn,i*7+2,none⟩=some x2∧w.cell? ⟨gn,i*7+3,none⟩=some x3∧w.cell? ⟨gn,i*7+4,none⟩=some x4∧w.cell? ⟨gn,i*7+5,none⟩=some x5∧w.cell? ⟨gn,i*7+6,none⟩=some x6:=by
 rcases h with⟨gn,gw,gr,rv,rfl,hx⟩|⟨rfl,rfl⟩
 ·exact⟨_,_,rfl,hx.few,fun i d hd=>⟨gn,rfl,hx.nodes.at hd⟩⟩
 exact⟨none,none,rfl,by simp,fun i d hd=>by simp at hd⟩
theorem Uz.below{w w':World}{B:Nat}{v:Value}{W:WdS}(h:Uz w B v W)(hb:Below w.heap.size w w'):Uz w' B v W:=by
 rcases h with⟨gn,gw,gr,rv,e,hx⟩|h
 ·exact .inl ⟨gn,gw,gr,rv,e,hx.below hb⟩
 exact .inr h
theorem Qt.below{w w':World}{B:Nat}{v:Value}{es:List Int}(h:Qt w B v es)(hb:Below w.heap.size w w'):Qt w' B v es:=Zp h hb (nlr _)
theorem Qt.at{w:World}{B:Nat}{a:Option Addr}{n c:Nat}{es:List Int}(h:Qt w B (.slice a n c) es){i:Nat}{x:Int}(hx:es[i]? =some x):∃g,a=some ⟨g,0,none⟩∧w.cell? ⟨g,i,none⟩=some (.int .i64 x):=by
 have hi:i<es.length:=(List.getElem?_eq_some_iff.1 hx).1
 rcases h.2 with⟨-,h0⟩|⟨g,cap,cur,h0,-,hc,-,-,-,h4⟩
 ·omega
 simp only[Value.slice.injEq]at h0;obtain⟨rfl,-,-⟩:=h0;refine⟨g,rfl,?_⟩;have e:(es.map (Value.int .i64))[i]? =some (.int .i64 x):=by rw[List.getElem?_map,hx];rfl
 rw[←h4,List.getElem?_take_of_lt (by omega)]at e;simp only[World.cell?,hc]
 simpa using e

theorem Uz.at{w:World}{B:Nat}{a1 a2:Option Addr}{n1 c1 n2 c2:Nat}{W:WdS}(h:Uz w B (.agg #[.slice a1 n1 c1,.slice a2 n2 c2]) W){i:Nat}{d:NdS}(hd:W.nodes[i]? =some d):
  ∃gn ba1 bc1 ba2 bc2 ba3 bc3 ba4 bc4 ba5 bc5 ba6 bc6,a1=some ⟨gn,0,none⟩∧Yo w B (.agg #[.int .i64 d.self,.slice ba1 d.st.clock.length bc1,.slice ba2 d.st.lives.length bc2,.slice ba3 d.st.tals.length bc3,.slice ba4 d.base.length bc4,.slice ba5 d.log.length bc5,.slice ba6 d.known.length bc6]) d∧w.cell? ⟨gn,i*7,none⟩=some (.int .i64 d.self)∧w.cell? ⟨gn,i*7+1,none⟩=some (.slice ba1 d.st.clock.length bc1)∧w.cell? ⟨gn,i*7+2,none⟩=some (.slice ba2 d.st.lives.length bc2)∧w.cell? ⟨gn,i*7+3,none⟩=some (.slice ba3 d.st.tals.length bc3)∧w.cell? ⟨gn,i*7+4,none⟩=some (.slice ba4 d.base.length bc4)∧w.cell? ⟨gn,i*7+5,none⟩=some (.slice ba5 d.log.length bc5)∧w.cell? ⟨gn,i*7+6,none⟩=some (.slice ba6 d.known.length bc6):=by
 obtain⟨e1,e2,hv,-,hat⟩:=h.node;simp only[Value.agg.injEq,Array.mk.injEq,List.cons.injEq,and_true,Value.slice.injEq]at hv;obtain⟨⟨rfl,-,-⟩,-⟩:=hv;obtain⟨gn,rfl,x0,x1,x2,x3,x4,x5,x6,hno,q0,q1,q2,q3,q4,q5,q6⟩:=hat i d hd;obtain⟨ba1,bc1,ba2,bc2,ba3,bc3,ba4,bc4,ba5,bc5,ba6,bc6,hv⟩:=hno.form;simp only[Value.agg.injEq,Array.mk.injEq,List.cons.injEq,and_true]at hv;obtain⟨rfl,rfl,rfl,rfl,rfl,rfl,rfl⟩:=hv;exact⟨gn,ba1,bc1,ba2,bc2,ba3,bc3,ba4,bc4,ba5,bc5,ba6,bc6,rfl,hno,q0,q1,q2,q3,q4,q5,q6⟩
theorem Uz.form{w:World}{B:Nat}{v:Value}{W:WdS}(h:Uz w B v W):∃a1 a2,v=.agg #[.slice a1 W.nodes.length W.nodes.length,.slice a2 W.nodes.length W.nodes.length]∧W.nodes.length≤6:=by
 obtain⟨a1,a2,h1,h2,-⟩:=h.node;exact⟨a1,a2,h1,h2⟩
theorem played{n:Int}{l:List DoS}(h:playWE n l=0):∃k:Nat,n=k∧1≤k∧k≤6∧l.length≤150∧playWX n l=runX (Uy k) l∧playWC n l=runE (Uy k) l∧(playWX n l).nodes.length=k:=by
 have hx:playWX n l=runX (Uy n.toNat) l:=by unfold playWX;rw[if_pos h]
 have hc:playWC n l=runE (Uy n.toNat) l:=by unfold playWC;rw[if_pos h]
 unfold playWE at h
 split at h
 ·cases h
 next hb=>
 obtain⟨k,hk⟩:∃k:Nat,n=k:=⟨n.toNat,by omega⟩;subst hk;rw[Int.toNat_natCast]at hx hc;exact⟨k,rfl,by omega,by omega,by omega,hx,hc,by rw[hx,runX_len,begin_len]⟩
theorem DoV.take{w:World}{a:Option Addr}{c k m:Nat}{l:List DoS}(h:DoV w (.slice a m c) l)(hk:k≤l.length):DoV w (.slice a k c) (l.take k):=by
 obtain⟨a',c',h1,h2,h3,h4⟩:=h;simp only[Value.slice.injEq]at h1;obtain⟨rfl,-,rfl⟩:=h1;refine⟨a,c,by rw[List.length_take,Nat.min_eq_left hk],by rw[List.length_take];omega,h3,fun i o hi=>h4 i o ?_⟩;have hik:i<k:=by have:=(List.getElem?_eq_some_iff.1 hi).1;rw[List.length_take]at this;omega
 rw[List.getElem?_take_of_lt hik]at hi;exact hi
theorem Yo.clk{w:World}{B:Nat}{d:NdS}{x c l t b u k:Value}(h:Yo w B (.agg #[x,c,l,t,b,u,k]) d):Row w c d.st.clock∧Row w b d.base∧Jp w (.agg #[c,l,t]) d.st∧Vh w u d.log∧KnV w k d.known:=by
 obtain⟨cv,lv,tv,bv,uv,kv,he,hs,hb,hl,hk⟩:=h;simp only[Value.agg.injEq,Array.mk.injEq,List.cons.injEq,and_true]at he;obtain⟨-,rfl,rfl,rfl,rfl,rfl,rfl⟩:=he;obtain⟨cv',lv',tv',he,hc,-,-⟩:=id hs;simp only[Value.agg.injEq,Array.mk.injEq,List.cons.injEq,and_true]at he;obtain⟨rfl,-,-⟩:=he;exact⟨hc.row,hb.row,hs.st,hl.log,hk.kn⟩
theorem getD_some{α:Type}{l:List α}{i:Nat}{z:α}(h:i<l.length):l[i]? =some (l.getD i z):=by rw[List.getD_eq_getElem?_getD,List.getElem?_eq_getElem h];rfl
end Go.Proofs.YtfhecilhcofboaaGreat
