/- The document's own Start. -/
import Derived.Test.YtfhecilhcofboaaGreatNrD
import Derived.Test.YtfhecilhcofboaaGreatRfJ
namespace Go.Proofs.YtfhecilhcofboaaGreat
open Go.RowKit

theorem zrow(w:World)(B:Nat){m:Nat}(hm:m≤6)(hB:B≤w.heap.size):∃W,Hid (w.alloc (.cells (madeCells #[.int .i64 0] m) 3)=W)∧Own W B (.slice (some ⟨w.heap.size,0,none⟩) m m) (zeroC m)∧Below w.heap.size w W:=by
 refine⟨_,rfl,?_,bpl w _⟩;rw[made_zero m hm];have h:=World.ownsRow_lit (base:=B) (e:=3) (size:=1) w ((zeroC m).map (Value.int .i64)).toArray m hB (by unfold maxLen;omega) (by simp[zeroC]);unfold Own;rw[show(zeroC m).length=m by simp[zeroC]];exact h
structure StN (w W:World) (B g m:Nat) (i:Int) (v2 v5 kv:Value) (qs:List (List Int×Value)):Prop where
 box:Box W g [.int .i64 i,v2,.slice none 0 0,.slice none 0 0,v5,.slice none 0 0,kv] 31
 res:Box W w.heap.size [.int .i64 0,.slice none 0 0,.slice none 0 0,.slice none 0 0,.slice none 0 0,.slice none 0 0,.slice none 0 0] 31
 c:Own W B v2 (zeroC m)
 b:Own W B v5 (zeroC m)
 k:KnO W B kv qs
 hb:Below w.heap.size w W
 hg:B≤g
 hB:B=w.heap.size+1
section
variable {w W W':World}{B g m:Nat}{i:Int}{v2 v5 kv v' x:Value}{qs:List (List Int×Value)}
theorem StN.below(h:StN w W B g m i v2 v5 kv qs){C:Nat}(hb:Below C W W')(hC:W.heap.size≤C):StN w W' B g m i v2 v5 kv qs:=
 ⟨h.box.below hb hC,h.res.below hb hC,h.c.below hb hC,h.b.below hb hC,h.k.below hb hC,h.hb.trans (hb.mono (Nat.le_trans h.hb.size hC)),h.hg,h.hB⟩
theorem StN.grow(h:StN w W B g m i v2 v5 kv qs)(ho:W'.ownsRow B 23 1 v' (qs.length+1) (qs.map (·.2)++[x]))(hgr:W.grownBy W' kv.ownBlock)(hx:Own W B x (zeroC m)):StN w (W'.setCell ⟨g,6,none⟩ v') B g m i v2 v5 v' (qs++[(zeroC m,x)]):=by
 have bx:=h.box.grownT h.k.1 hgr (by decide);have tr:∀{v:Value} {l:List Int},Own W B v l→Own (W'.setCell ⟨g,6,none⟩ v') B v l:=fun hv=>Own.setT (Xt hv h.k.1 hgr (by decide)) bx (by decide) 6 v';have hne:w.heap.size≠g:=by have:=h.hg;have:=h.hB;omega
 refine⟨bx.set 6 v',(h.res.grownT h.k.1 hgr (by decide)).away hne,tr h.c,tr h.b,⟨?_,fun q hq=>?_⟩,(h.hb.grown hgr h.hb.size fun k e=>by have:=(h.k.1.lt k e).1;have:=h.hB;omega).setCell (by have:=h.hg;have:=h.hB;show w.heap.size≤g;omega) _,h.hg,h.hB⟩
 ·rw[List.length_append,List.map_append];exact Yd ho bx (by decide) 6 v'
 rcases List.mem_append.1 hq with hq|hq
 ·exact tr (h.k.2 q hq)
 rw[List.mem_singleton]at hq;rw[hq];exact tr hx
theorem StN.start{c0 c1 c2 c3 c4 c5 c6:Value}(h:Box W g [c0,c1,c2,c3,c4,c5,c6] 31)(res:Box W w.heap.size [.int .i64 0,.slice none 0 0,.slice none 0 0,.slice none 0 0,.slice none 0 0,.slice none 0 0,.slice none 0 0] 31)(z2:Own W B v2 (zeroC m))(z5:Own W B v5 (zeroC m))(hb:Below w.heap.size w W)(hg:B≤g)(hB:B=w.heap.size+1):
  StN w (((((((W.setCell ⟨g,0,none⟩ (.int .i64 i)).setCell ⟨g,1,none⟩ v2).setCell ⟨g,2,none⟩ (.slice none 0 0)).setCell ⟨g,3,none⟩ (.slice none 0 0)).setCell ⟨g,4,none⟩ v5).setCell ⟨g,5,none⟩ (.slice none 0 0)).setCell ⟨g,6,none⟩ (.slice none 0 0)) B g m i v2 v5 (.slice none 0 0) []:=by
 have b0:=h.set 0 (.int .i64 i);have b1:=b0.set 1 v2;have b2:=b1.set 2 (.slice none 0 0);have b3:=b2.set 3 (.slice none 0 0);have b4:=b3.set 4 v5;have b5:=b4.set 5 (.slice none 0 0);have hne:w.heap.size≠g:=by omega
 have tr:∀{v:Value} {l:List Int},Own W B v l→Own (((((((W.setCell ⟨g,0,none⟩ (.int .i64 i)).setCell ⟨g,1,none⟩ v2).setCell ⟨g,2,none⟩ (.slice none 0 0)).setCell ⟨g,3,none⟩ (.slice none 0 0)).setCell ⟨g,4,none⟩ v5).setCell ⟨g,5,none⟩ (.slice none 0 0)).setCell ⟨g,6,none⟩ (.slice none 0 0)) B v l:=fun hv=>((((((hv.setT h (by decide) 0 _).setT b0 (by decide) 1 _).setT b1 (by decide) 2 _).setT b2 (by decide) 3 _).setT b3 (by decide) 4 _).setT b4 (by decide) 5 _).setT b5 (by decide) 6 _;exact⟨b5.set 6 (.slice none 0 0),((((((res.away hne).away hne).away hne).away hne).away hne).away hne).away hne,tr z2,tr z5,⟨World.ownsRow_nil _ _ _ _,fun q hq=>by simp at hq⟩,Below.set7b hb (by omega),hg,hB⟩
theorem cells_snd:∀qs:List (List Int×Value),cellsS encK qs=qs.map (·.2)
 |[]=>rfl
 |q::r=>by rw[List.map_cons,←cells_snd r];rfl
theorem StN.nd{S:Nat→Prop}(h:StN w W B g m i v2 v5 kv qs)(hS:∀k,S k→k<w.heap.size):NdF (Us S w.heap.size (w.heap.size+1)) W v2 (.slice none 0 0) (.slice none 0 0) v5 (.slice none 0 0) kv ⟨i,⟨zeroC m,[],[]⟩,zeroC m,[],qs.map (·.1)⟩:=by
 have hM:∀k,Us S w.heap.size (w.heap.size+1) k→k<B:=mine_lt hS (by have:=h.hB;omega) (by omega);refine⟨Yl.fix ⟨_,_,_,rfl,h.c,World.ownsRow_nil _ _ _ _,World.ownsRow_nil _ _ _ _⟩ hM,h.b.fix hM,NdF.none.log,KnF.own ?_ hM fun q hq=>(h.k.2 q hq).fix hM⟩;rw[cells_snd];exact h.k.1
end

set_option maxRecDepth 100000 in
set_option maxHeartbeats 40000000 in
theorem start_ref{S:Nat→Prop}(i n:Int)(w:World)(hS:∀k,S k→k<w.heap.size):
  Calls Tryz.prog 6 #[.int .i64 i,.int .i64 n] w fun e w'=>∃rv,e=.returned (.tuple #[rv,.int .i64 (zH i n)])∧NdR S w' rv (Uu i n)∧Below w.heap.size w w':=by
 obtain⟨i0,hi0,hz0,hz1,hz2⟩:=info_parts Tryz.infoClock;obtain⟨w1,HW1,R1,HB1,hs1⟩:=xW w [.int .i64 0,.slice none 0 0,.slice none 0 0,.slice none 0 0,.slice none 0 0,.slice none 0 0,.slice none 0 0] 31;obtain⟨E,HE⟩:∃E,Hid (zH i n=E):=⟨_,rfl⟩;obtain⟨X,HX⟩:∃X,Hid (Uu i n=X):=⟨_,rfl⟩;rw[HE.out,HX.out];unfold Uu at HX;rw[HE.out]at HX;unfold zH at HE
 go_enter Tryz.func6,Tryz.ntmps6
 go_upto_region 1 with fail
 rw[HW1.out]
 by_cases q0:n<1
 ·rw[if_neg (by omega)]at HE;obtain rfl:=HE.out;rw[if_neg (by decide)]at HX;obtain rfl:=HX.out;obtain⟨r0,e0,r1,e1,r2,e2,r3,e3,r4,e4,r5,e5,r6,e6⟩:=R1.seven
  go_wp2_with fail
  obtain⟨hR,hV,hB⟩:=yN (S:=S) (b:=w.heap.size+1) (d:=Yu) R1.out NdF.none HB1.out (nlr _) (by omega);exact bodyPost_ret (Zc rfl _ _ (w.heap.size) 31 _ (0,0) _ rfl hR Tryz.underlying31 rfl Tryz.sizeNode) rfl ⟨_,rfl,⟨_,_,_,_,_,_,rfl,hV⟩,hB⟩
 by_cases q1:6<n
 ·rw[if_neg (by omega)]at HE;obtain rfl:=HE.out;rw[if_neg (by decide)]at HX;obtain rfl:=HX.out;obtain⟨r0,e0,r1,e1,r2,e2,r3,e3,r4,e4,r5,e5,r6,e6⟩:=R1.seven
  go_wp2_with fail
  obtain⟨hR,hV,hB⟩:=yN (S:=S) (b:=w.heap.size+1) (d:=Yu) R1.out NdF.none HB1.out (nlr _) (by omega);exact bodyPost_ret (Zc rfl _ _ (w.heap.size) 31 _ (0,0) _ rfl hR Tryz.underlying31 rfl Tryz.sizeNode) rfl ⟨_,rfl,⟨_,_,_,_,_,_,rfl,hV⟩,hB⟩
 rw[if_pos (by omega)]at HE
 by_cases q2:i<0
 ·rw[if_neg (by omega)]at HE;obtain rfl:=HE.out;rw[if_neg (by decide)]at HX;obtain rfl:=HX.out;obtain⟨r0,e0,r1,e1,r2,e2,r3,e3,r4,e4,r5,e5,r6,e6⟩:=R1.seven
  go_wp2_with fail
  obtain⟨hR,hV,hB⟩:=yN (S:=S) (b:=w.heap.size+1) (d:=Yu) R1.out NdF.none HB1.out (nlr _) (by omega);exact bodyPost_ret (Zc rfl _ _ (w.heap.size) 31 _ (0,0) _ rfl hR Tryz.underlying31 rfl Tryz.sizeNode) rfl ⟨_,rfl,⟨_,_,_,_,_,_,rfl,hV⟩,hB⟩
 by_cases q3:n≤i
 ·rw[if_neg (by omega)]at HE;obtain rfl:=HE.out;rw[if_neg (by decide)]at HX;obtain rfl:=HX.out;obtain⟨r0,e0,r1,e1,r2,e2,r3,e3,r4,e4,r5,e5,r6,e6⟩:=R1.seven
  go_wp2_with fail
  obtain⟨hR,hV,hB⟩:=yN (S:=S) (b:=w.heap.size+1) (d:=Yu) R1.out NdF.none HB1.out (nlr _) (by omega);exact bodyPost_ret (Zc rfl _ _ (w.heap.size) 31 _ (0,0) _ rfl hR Tryz.underlying31 rfl Tryz.sizeNode) rfl ⟨_,rfl,⟨_,_,_,_,_,_,rfl,hV⟩,hB⟩
 rw[if_pos (by omega)]at HE;obtain rfl:=HE.out;rw[if_pos rfl]at HX;obtain⟨m,rfl⟩:∃m:Nat,n=m:=⟨n.toNat,by omega⟩;rw[Int.toNat_natCast]at HX;have hm6:Hid (m≤6):=by unfold Hid;omega
 go_upto_region 5 with fail
 refine bD (fun _=>false) (fun _=>True) (Zi _) (fun _ _=>trivial) fun W hcd hS'=>?_;have HB:=Za hcd;clear hcd;refine yD 0 (.int .i64 i) ?_;refine yD 1 (.int .i64 (m:Int)) ?_;refine yD 4 (.int .i64 (m:Int)) ?_
 repeat'
  first
  |refine eD ?_ (by decide+kernel)
  |refine yT 3 (.agg #[.slice (some ⟨g2,0,none⟩) m m,.slice none 0 0,.slice none 0 0]) ?_ (hs:=by decide+kernel)
  |refine yT 6 (.agg #[.int .i64 i,.slice (some ⟨g2,0,none⟩) m m,.slice none 0 0,.slice none 0 0,.slice (some ⟨g5,0,none⟩) m m,.slice none 0 0,.slice none 0 0]) ?_ (hs:=by decide+kernel)
  |refine aR (cR 2 ?_ (cR 5 ?_ (cR 7 ?_ (cR 8 ?_ nR))))
  |exact fun _ h=>absurd h (by decide+kernel)
  | (refine fun(_:Tg 2) _ K hK=>?_
     have hmk:=run_make_row' 22 3 (.int .i64 0) 8 Tryz.underlying22 Tryz.infoInt rfl .i64 .i64 m (by omega) (by omega) W;go_simp;clear hmk;obtain⟨g2,hg2⟩:∃g,Hid (W.heap.size=g):=⟨_,rfl⟩;obtain⟨W,HW,z2,hb⟩:=zrow W w1.heap.size hm6.out HB.size;rw[HW.out];rw[hg2.out]at z2 ⊢
     try have z5:=z5.below hb (nlr _)
     try have b7:=b7.below hb (nlr _)
     have HB:=Za (Zb HB.out hb)
     refine kS hK trivial ?_)
  | (refine fun(_:Tg 5) _ K hK=>?_
     have hmk:=run_make_row' 22 3 (.int .i64 0) 8 Tryz.underlying22 Tryz.infoInt rfl .i64 .i64 m (by omega) (by omega) W;go_simp;clear hmk;obtain⟨g5,hg5⟩:∃g,Hid (W.heap.size=g):=⟨_,rfl⟩;obtain⟨W,HW,z5,hb⟩:=zrow W w1.heap.size hm6.out HB.size;rw[HW.out];rw[hg5.out]at z5 ⊢
     try have z2:=z2.below hb (nlr _)
     try have b7:=b7.below hb (nlr _)
     have HB:=Za (Zb HB.out hb)
     refine kS hK trivial ?_)
  | (refine fun(_:Tg 7) _ K hK=>?_
     go_simp;obtain⟨g7,hg7⟩:∃g,Hid (W.heap.size=g):=⟨_,rfl⟩;have hge:w1.heap.size≤g7:=by rw[←hg7.out];exact HB.size
     have HGE:=Za hge;clear hge;obtain⟨W,HW,b7,hb,-⟩:=xW W [.int .i64 0,.slice none 0 0,.slice none 0 0,.slice none 0 0,.slice none 0 0,.slice none 0 0,.slice none 0 0] 31;rw[HW.out];have b7:=b7.out;have hb:=hb.out;rw[hg7.out]at b7 ⊢
     try have z2:=z2.below hb (nlr _)
     try have z5:=z5.below hb (nlr _)
     have HB:=Za (Zb HB.out hb)
     refine kS hK trivial ?_)
  | (refine fun(_:Tg 8) _ K hK=>?_
     obtain⟨r0,e0,r1,e1,r2,e2,r3,e3,r4,e4,r5,e5,r6,e6⟩:=b7.seven;go_simp
     refine kS hK trivial ?_)
 all_goals
  have S1:=Za (StN.start (i:=i) b7 (R1.below HB.out (nlr _)) z2 z5 (Zb HB1.out HB.out) HGE.out hs1.out);obtain⟨w0,HW0⟩:∃w0,Hid ((((((((W.setCell ⟨g7,0,none⟩ (.int .i64 i)).setCell ⟨g7,1,none⟩ (.slice (some ⟨g2,0,none⟩) m m)).setCell ⟨g7,2,none⟩ (.slice none 0 0)).setCell ⟨g7,3,none⟩ (.slice none 0 0)).setCell ⟨g7,4,none⟩ (.slice (some ⟨g5,0,none⟩) m m)).setCell ⟨g7,5,none⟩ (.slice none 0 0)).setCell ⟨g7,6,none⟩ (.slice none 0 0))=w0):=⟨_,rfl⟩;rw[HW0.out]at S1 ⊢;have HB1B:Hid (w1.heap.size≤w.heap.size+1):=Nat.le_of_eq hs1.out;clear b7 z2 z5 HB
  go_wp2_with fail
  go_loopw [7] (fun iv wr=>∃(k:Nat) (kv:Value) (qs:List (List Int×Value)),k≤m∧iv=.int .i64 k∧Hid (qs.map (·.1)=List.replicate k (zeroC m))∧Hid (StN w wr w1.heap.size g7 m i (.slice (some ⟨g2,0,none⟩) m m) (.slice (some ⟨g5,0,none⟩) m m) kv qs)) (fun iv _=>m - (intOf iv).toNat)
  case atStart=>exact⟨0,_,[],Nat.zero_le _,rfl,Za rfl,S1⟩
  obtain⟨k,kv,qs,hk,rfl,HQ,S2⟩:=hrel;obtain⟨w2,rfl⟩:∃w2,w2=wr:=⟨wr,rfl⟩;clear S1;obtain⟨aK,nK,cK,rfl⟩:∃a n c,kv=.slice a n c:=by obtain⟨a,c,h⟩:=Uf.form ⟨qs,S2.k,rfl⟩;exact⟨a,_,c,h⟩
  have HQL:Hid (qs.length≤6):=by have h:=congrArg List.length HQ.out;rw[List.length_map,List.length_replicate]at h;have:=hm6.out;unfold Hid;omega
  by_cases hlt:k<m
  rotate_left
  ·have hlt':¬(k:Int)<(m:Int):=by omega
   obtain rfl:(⟨i,⟨zeroC m,[],[]⟩,zeroC m,[],qs.map (·.1)⟩:NdS)=X:=by rw[HQ.out,←HX.out,show k=m by omega]
   have ND:=Za (S2.nd hS);obtain⟨g0,g1,g2',g3,g4,g5',g6⟩:=S2.box.c7;obtain⟨r0,e0,r1,e1,r2,e2,r3,e3,r4,e4,r5,e5,r6,e6⟩:=S2.res.seven
   go_wp2_with fail
   obtain⟨hR,hV,hB⟩:=yN S2.res ND.out S2.hb (nlr _) (by omega);exact bodyPost_ret (Zc rfl _ _ (w.heap.size) 31 _ (0,0) _ rfl hR Tryz.underlying31 rfl Tryz.sizeNode) rfl ⟨_,rfl,⟨_,_,_,_,_,_,rfl,hV⟩,hB⟩
  have hlt':(k:Int)<(m:Int):=by omega
  have g6:=S2.box.get 6 rfl;have HSZ:Hid (w1.heap.size≤w2.heap.size):=by have:=S2.box.lt;have:=S2.hg;unfold Hid;omega
  have HK9:=Za fun w' (hg:Zh w2 w')=>Yi hg g6
  go_upto_region 9 with fail
  clear g6;refine bD (fun i=>i==5||i==7) (fun _=>True) (Zi _) HK9.out fun wd hcd hHeld=>?_;refine yT 0 (.pointer (some ⟨g7,6,none⟩)) ?_;refine yD 1 (.slice aK nK cK) ?_;refine yT 2 (.int .i64 (m:Int)) ?_;refine oD 3 fun K hK=>?_;have hmk:=run_make_row' 22 3 (.int .i64 0) 8 Tryz.underlying22 Tryz.infoInt rfl .i64 .i64 m (by omega) (by omega) wd;go_simp;clear hmk;obtain⟨g3,hg3⟩:∃g,Hid (wd.heap.size=g):=⟨_,rfl⟩;obtain⟨w_3,HW3,z3,hb_3⟩:=zrow wd w1.heap.size hm6.out (Nat.le_trans (HSZ.out) hcd.size);rw[HW3.out];rw[hg3.out]at z3 ⊢;have hg_3:Zh w2 w_3:=Zd hcd hb_3;have hH_3:=HK9.out _ hg_3;refine kS hK hH_3 ?_;clear hK K;refine oD 4 fun K hK=>?_;go_simp;obtain⟨g4,hg4⟩:∃g,Hid (w_3.heap.size=g):=⟨_,rfl⟩;obtain⟨w_b,HW4,b4,hb_b,-⟩:=xW w_3 [.slice (some ⟨g3,0,none⟩) m m] 23;rw[HW4.out];have b4:=b4.out;rw[hg4.out]at b4 ⊢;have z4:=z3.below hb_b.out (nlr _);have hg_b:Zh w2 w_b:=Zd hg_3 hb_b.out;have hH_b:=HK9.out _ hg_b;refine kS hK hH_b ?_;clear hK K;refine oD 5 fun K hK=>?_;have S4:=S2.below hg_b (nlr _);have hsrc:=Src.ofSlice (P:=Tryz.prog) w_b (size:=1) Tryz.underlying29 ⟨g4,0,none⟩ 1 1 [.slice (some ⟨g3,0,none⟩) m m] rfl b4.cellsAt (fun q hq=>by rw[List.mem_singleton]at hq;rw[hq];rfl);obtain⟨v9,w_d,hrun,ho9,hgr9⟩:=Jh (P:=Tryz.prog) w_b w1.heap.size 29 29 29 23 i0 _ 1 24 Tryz.underlying29 hi0 hz0 hz1 hz2 rfl _ _ _ S4.k.1 _ 1 _ hsrc (by unfold maxLen;have:=HQL.out;omega) (by have:=HQL.out;omega) (Nat.le_trans (HSZ.out) hg_b.size);refine step_run hrun ?_;clear hrun;have S9:=S4.grow ho9 hgr9 z4;obtain⟨aN,nN,cN,hvN⟩:=(show∃a n c,v9=.slice a n c from by obtain⟨a,c,h⟩:=(Uf.form ⟨_,S9.k,rfl⟩);exact⟨a,_,c,h⟩);subst hvN;have hc6:=(S4.box.grownT S4.k.1 hgr9 (by decide)).get 6 rfl;have hf6:=(S4.box.grownT S4.k.1 hgr9 (by decide)).free 6;refine kD hK (trivial) ?_;clear hK K;refine yT 6 (.pointer (some ⟨g7,6,none⟩)) ?_;refine oD 7 fun K hK=>?_;go_simp;refine kD hK (trivial) ?_;clear hK K;refine eD ?_;have HS9:=Za S9;clear S9 S4 hc6 hf6
  go_wp2_with fail
  go_roundw
  case rel=>exact⟨k+1,_,_,by omega,by go_num,Za (by rw[List.map_append,List.replicate_succ',HQ.out];rfl),HS9⟩
  case measure=>simp[intOf];omega
end Go.Proofs.YtfhecilhcofboaaGreat
/- The document's own Take. -/
namespace Go.Proofs.YtfhecilhcofboaaGreat
open Go.RowKit

section
variable {S:Nat→Prop}{b gr:Nat}{w W W':World}{v x1 x2 x3 x4 x5 x6:Value}{zs:List Value}{tz:TypeId}{d:NdS}{p:Pcl}
theorem PcR.form(h:PcR S w v p):∃b1 e1 b2 e2 b3 e3 b4 e4 b5 e5,v=.agg #[.bool p.whole,.slice b1 p.st.clock.length e1,.slice b2 p.st.lives.length e2,.slice b3 p.st.tals.length e3,.slice b4 p.ups.length e4,.slice b5 p.clock.length e5]∧PcF S w (.slice b1 p.st.clock.length e1) (.slice b2 p.st.lives.length e2) (.slice b3 p.st.tals.length e3) (.slice b4 p.ups.length e4) (.slice b5 p.clock.length e5) p:=by
 obtain⟨x1,x2,x3,x4,x5,rfl,hF⟩:=h;obtain⟨b1,e1,b2,e2,b3,e3,b4,e4,b5,e5,e,-⟩:=hF.pcl.form;simp only[Value.agg.injEq,Array.mk.injEq,List.cons.injEq,and_true,true_and]at e;obtain⟨rfl,rfl,rfl,rfl,rfl⟩:=e;exact⟨b1,e1,b2,e2,b3,e3,b4,e4,b5,e5,rfl,hF⟩
theorem FrN.form(h:FrN S b w W gr zs tz x1 x2 x3 x4 x5 x6 d):∃a1 c1 a2 c2 a3 c3 a4 c4 a5 c5 a6 c6,x1=.slice a1 d.st.clock.length c1∧x2=.slice a2 d.st.lives.length c2∧x3=.slice a3 d.st.tals.length c3∧x4=.slice a4 d.base.length c4∧x5=.slice a5 d.log.length c5∧x6=.slice a6 d.known.length c6:=by
 obtain⟨a1,c1,a2,c2,a3,c3,a4,c4,a5,c5,a6,c6,e,-⟩:=h.nd.node.form;simp only[Value.agg.injEq,Array.mk.injEq,List.cons.injEq,and_true,true_and]at e;exact⟨a1,c1,a2,c2,a3,c3,a4,c4,a5,c5,a6,c6,e⟩
structure PrN (S:Nat→Prop) (b:Nat) (w W:World) (x1 x2 x3 x4 x5:Value) (p:Pcl):Prop where
 box:Box W (w.heap.size+1) [.bool p.whole,x1,x2,x3,x4,x5] 35
 pf:PcF (Us S w.heap.size b) W x1 x2 x3 x4 x5 p
theorem PrN.step(h:PrN S b w W x1 x2 x3 x4 x5 p)(hb:Below W.heap.size W W'):PrN S b w W' x1 x2 x3 x4 x5 p:=⟨h.box.below hb (nlr _),h.pf.off (zM hb (nlr _))⟩
theorem PrN.off(h:PrN S b w W x1 x2 x3 x4 x5 p)(ho:Off (fun k=>k=w.heap.size) W W')(hb:w.heap.size<b):PrN S b w W' x1 x2 x3 x4 x5 p:=⟨h.box.off ho (by omega),h.pf.off (ho.sub fun k hk=>.inr (by omega))⟩
theorem PcF.more(h:PcF S w x1 x2 x3 x4 x5 p)(hb:Below w.heap.size w W):PcF (Us S w.heap.size b) W x1 x2 x3 x4 x5 p:=⟨h.st.more hb,h.ups.more hb,h.clk.more hb⟩
theorem st1R{y:Value}{l:List Int}(_:Fix S W fun w=>Row w y l)(g i:Nat):∃W',Hid (W.setCell ⟨g,i,none⟩ y=W')∧Off (fun k=>k=g) W W'∧∀{cs:List Value} {t:TypeId},Box W g cs t→Box W' g (cs.set i y) t:=st1 W g i y
end

set_option maxRecDepth 100000 in
set_option maxHeartbeats 40000000 in
theorem take_ref{S:Nat→Prop}{v pv:Value}{d:NdS}{p:Pcl}(i:Int)(w:World)(h:NdR S w v d)(hp:PcR S w pv p)(hS:∀k,S k→k<w.heap.size):
  Calls Tryz.prog 16 #[v,.int .i64 i,pv] w fun e w'=>∃rv,e=.returned (.tuple #[rv,.int .i64 (Un d i p)])∧NdR S w' rv (takeX d i p)∧Below w.heap.size w w':=by
 obtain⟨a1,c1,a2,c2,a3,c3,a4,c4,a5,c5,a6,c6,rfl,hF⟩:=h.form;obtain⟨b1,e1,b2,e2,b3,e3,b4,e4,b5,e5,rfl,hG⟩:=hp.form;obtain⟨wh,hwh⟩:∃wh,Hid (p.whole=wh):=⟨_,rfl⟩;rw[hwh.out];obtain⟨w0,HW,G0,V0,R0,HB0,hs0⟩:=lay3 w [.int .i64 d.self,.slice a1 d.st.clock.length c1,.slice a2 d.st.lives.length c2,.slice a3 d.st.tals.length c3,.slice a4 d.base.length c4,.slice a5 d.log.length c5,.slice a6 d.known.length c6] 31 [.bool wh,.slice b1 p.st.clock.length e1,.slice b2 p.st.lives.length e2,.slice b3 p.st.tals.length e3,.slice b4 p.ups.length e4,.slice b5 p.clock.length e5] 35 [.int .i64 0,.slice none 0 0,.slice none 0 0,.slice none 0 0,.slice none 0 0,.slice none 0 0,.slice none 0 0] 31;have Q0:=Za (FrN.mk G0.out R0.out (hF.more (b:=w.heap.size+1+1+1) HB0.out) HB0.out (mine_lt hS (Nat.le_of_eq hs0.out.symm) (by omega)) (by omega) (by omega));have P0:=Za (PrN.mk (by rw[hwh.out];exact V0.out) (hG.more (b:=w.heap.size+1+1+1) HB0.out));obtain⟨E,HE⟩:∃E,Hid (Un d i p=E):=⟨_,rfl⟩;obtain⟨X,HX⟩:∃X,Hid (takeX d i p=X):=⟨_,rfl⟩;rw[HE.out,HX.out];unfold takeX at HX;rw[HE.out]at HX;unfold Un at HE;obtain⟨O,HOT⟩:∃O,Hid (Jj d i=O):=⟨_,rfl⟩;rw[HOT.out]at HE;unfold Jj at HOT;obtain⟨N,HN⟩:∃N,Hid (Vi d=N):=⟨_,rfl⟩;rw[HN.out]at HOT;clear h hp hF hG G0 V0 R0 HB0 hs0 hS;obtain⟨g0,g1,g2,g3,g4,g5,g6⟩:=Q0.box.c7
 go_enter Tryz.func16,Tryz.ntmps16
 go_upto_region 1 with fail
 rw[HW.out]
 go_wp2_with fail
 refine(Oh _ d _ Q0.nd.node).mono ?_;rintro e w1 ⟨rfl,hb1⟩;rw[HN.out];have Q1:=Za (Q0.step hb1);have P1:=Za (P0.step hb1);clear g0 g1 g2 g3 g4 g5 g6 Q0 P0 hb1
 by_cases hN:N=0
 rotate_left
 ·have hN':(N != 0)=true:=by simp[hN]
  rw[if_neg hN]at HOT;obtain rfl:=HOT.out;rw[if_neg hN]at HE;obtain rfl:=HE.out;rw[if_neg hN]at HX;obtain rfl:=HX.out;clear hN;obtain⟨r0,e0,r1,e1,r2,e2,r3,e3,r4,e4,r5,e5,r6,e6⟩:=Q1.res.seven
  go_wp2_with fail
  obtain⟨hR,hV,hB⟩:=yN (S:=S) (d:=Yu) Q1.res NdF.none Q1.hb (by omega) Q1.g2;exact bodyPost_ret (Zc rfl _ _ (w.heap.size+1+1) 31 _ (0,0) _ rfl hR Tryz.underlying31 rfl Tryz.sizeNode) rfl ⟨_,rfl,⟨_,_,_,_,_,_,rfl,hV⟩,hB⟩
 have hN':(N != 0)=false:=by simp[hN]
 have hNz:Vi d=0:=by rw[HN.out];exact hN
 rw[if_pos hN]at HOT;have HF:=Za (yF hNz);have HO:=Za (Vk.1 hNz);have HRL:=Za (fun xs=>right_log hNz (xs:=xs));have HKL:=Za HO.kl;clear hNz hN;have hkl:=Q1.nd.kn.kn.len_le;obtain⟨g0,g1,g2,g3,g4,g5,g6⟩:=Q1.box.c7;obtain⟨v0,v1,v2,v3,v4,v5⟩:=P1.box.c6;rw[hwh.out]at v0
 by_cases q0:i<0
 ·rw[if_neg (by omega)]at HOT;obtain rfl:=HOT.out;rw[if_neg (by decide)]at HE;obtain rfl:=HE.out;rw[if_neg (by decide)]at HX;obtain rfl:=HX.out;obtain⟨r0,e0,r1,e1,r2,e2,r3,e3,r4,e4,r5,e5,r6,e6⟩:=Q1.res.seven
  go_wp2_with fail
  obtain⟨hR,hV,hB⟩:=yN (S:=S) (d:=Yu) Q1.res NdF.none Q1.hb (by omega) Q1.g2;exact bodyPost_ret (Zc rfl _ _ (w.heap.size+1+1) 31 _ (0,0) _ rfl hR Tryz.underlying31 rfl Tryz.sizeNode) rfl ⟨_,rfl,⟨_,_,_,_,_,_,rfl,hV⟩,hB⟩
 by_cases q1:(d.known.length:Int)≤i
 ·rw[if_neg (by have:=HKL.out;omega)]at HOT;obtain rfl:=HOT.out;rw[if_neg (by decide)]at HE;obtain rfl:=HE.out;rw[if_neg (by decide)]at HX;obtain rfl:=HX.out;obtain⟨r0,e0,r1,e1,r2,e2,r3,e3,r4,e4,r5,e5,r6,e6⟩:=Q1.res.seven
  go_wp2_with fail
  obtain⟨hR,hV,hB⟩:=yN (S:=S) (d:=Yu) Q1.res NdF.none Q1.hb (by omega) Q1.g2;exact bodyPost_ret (Zc rfl _ _ (w.heap.size+1+1) 31 _ (0,0) _ rfl hR Tryz.underlying31 rfl Tryz.sizeNode) rfl ⟨_,rfl,⟨_,_,_,_,_,_,rfl,hV⟩,hB⟩
 rw[if_pos (by have:=HKL.out;omega)]at HOT
 by_cases q2:i=d.self
 ·rw[if_pos q2]at HOT;obtain rfl:=HOT.out;have q2':(i==d.self)=true:=by simp[q2]
  clear q2;rw[if_neg (by decide)]at HE;obtain rfl:=HE.out;rw[if_neg (by decide)]at HX;obtain rfl:=HX.out;obtain⟨r0,e0,r1,e1,r2,e2,r3,e3,r4,e4,r5,e5,r6,e6⟩:=Q1.res.seven
  go_wp2_with fail
  obtain⟨hR,hV,hB⟩:=yN (S:=S) (d:=Yu) Q1.res NdF.none Q1.hb (by omega) Q1.g2;exact bodyPost_ret (Zc rfl _ _ (w.heap.size+1+1) 31 _ (0,0) _ rfl hR Tryz.underlying31 rfl Tryz.sizeNode) rfl ⟨_,rfl,⟨_,_,_,_,_,_,rfl,hV⟩,hB⟩
 rw[if_neg q2]at HOT;obtain rfl:=HOT.out;rw[if_pos rfl]at HE;have q2':(i==d.self)=false:=by simp[q2]
 have HQ2:=Za q2;clear q2
 go_wp2_with fail
 refine(Xy _ p.clock _ _ P1.pf.clk.here).mono ?_;rintro e w' ⟨rfl,hw'⟩;rw[hw'];clear hw' w';obtain⟨E2,HE2⟩:∃E2,Hid (Zn p.clock d.known.length=E2):=⟨_,rfl⟩;rw[HE2.out];rw[←HKL.out,HE2.out]at HE
 by_cases hE2:E2=0
 rotate_left
 ·have hE2':(E2 != 0)=true:=by simp[hE2]
  rw[if_neg hE2]at HE;obtain rfl:=HE.out;rw[if_neg hE2]at HX;obtain rfl:=HX.out;clear hE2;obtain⟨r0,e0,r1,e1,r2,e2,r3,e3,r4,e4,r5,e5,r6,e6⟩:=Q1.res.seven
  go_wp2_with fail
  obtain⟨hR,hV,hB⟩:=yN (S:=S) (d:=Yu) Q1.res NdF.none Q1.hb (by omega) Q1.g2;exact bodyPost_ret (Zc rfl _ _ (w.heap.size+1+1) 31 _ (0,0) _ rfl hR Tryz.underlying31 rfl Tryz.sizeNode) rfl ⟨_,rfl,⟨_,_,_,_,_,_,rfl,hV⟩,hB⟩
 have hE2':(E2 != 0)=false:=by simp[hE2]
 rw[if_pos hE2]at HE;have HPL:Hid (p.clock.length=d.known.length):=by have:=Yq (HE2.trans hE2);unfold Hid;omega
 clear hE2;obtain⟨D,HD⟩:∃D,Hid (yL d p=D):=⟨_,rfl⟩;obtain⟨E3,HE3⟩:∃E3,Hid (tstE d p=E3):=⟨_,rfl⟩;rw[HD.out,HE3.out]at HE;rw[HD.out]at HX
 go_upto_if 48 with fail
 clear g0 g1 g2 g3 g4 g5 g6 v0 v1 v2 v3 v4 v5
 go_cut [] (fun wx=>∃x1 x2 x3 x4 x5 x6,Hid (FrN S (w.heap.size+1+1+1) w wx (w.heap.size+1+1) [.int .i64 0,.slice none 0 0,.slice none 0 0,.slice none 0 0,.slice none 0 0,.slice none 0 0,.slice none 0 0] 31 x1 x2 x3 x4 x5 x6 D)∧Hid (PrN S (w.heap.size+1+1+1) w wx (.slice b1 p.st.clock.length e1) (.slice b2 p.st.lives.length e2) (.slice b3 p.st.tals.length e3) (.slice b4 p.ups.length e4) (.slice b5 p.clock.length e5) p)∧Hid (E3=0))
 case first=>
  cases wh
  ·obtain rfl:d=D:=by rw[←HD.out];unfold yL;rw[if_neg (by rw[hwh.out];decide)]
   obtain rfl:0=E3:=by rw[←HE3.out];unfold tstE;rw[if_neg (by rw[hwh.out];decide)]
   go_wp2_with fail
   go_meet
   exact⟨_,_,_,_,_,_,Q1,P1,Za trivial⟩
  obtain⟨J,HJ⟩:∃J,Hid (joinX d.st p.st=J):=⟨_,rfl⟩;have hE3:xA d.st p.st=E3:=by rw[←HE3.out];unfold tstE;rw[if_pos hwh.out]
  have hD:Qp ⟨d.self,J,d.base,d.log,d.known⟩ p.st.clock=D:=by rw[←HD.out,←HJ.out];unfold yL;rw[if_pos hwh.out]
  have HE4:=Za hE3;have HDD:=Za hD;clear hE3 hD;obtain⟨g0,g1,g2,g3,g4,g5,g6⟩:=Q1.box.c7;obtain⟨v0,v1,v2,v3,v4,v5⟩:=P1.box.c6
  go_wp2_with fail
  refine(join_ref4 _ _ d.st p.st _ Q1.nd.st.here P1.pf.st.here).mono ?_;rintro e w2 ⟨rv,rfl,ho2,hb2⟩;rw[HE4.out];rw[HJ.out]at ho2;have hst:=ho2.fix (S:=Us S w.heap.size (w.heap.size+1+1+1)) fun k hk=>by have:=Q1.lt k hk;omega
  obtain⟨cv,lv,tv,rfl,oc,ol,ot⟩:=id ho2;obtain⟨s1,t1,rfl,-⟩:=id oc.row;obtain⟨s2,t2,rfl,-⟩:=id (Zl Ze ol);obtain⟨s3,t3,rfl,-⟩:=id (Zl Zg ot);have hlt:=(Q1.step hb2).res.lt;obtain⟨w3,HW3,S3,HB3,-⟩:=xW w2 [.slice s1 J.clock.length t1,.slice s2 J.lives.length t2,.slice s3 J.tals.length t3] 27;have Q3:=Za ((Q1.step hb2).step HB3.out);have P3:=Za ((P1.step hb2).step HB3.out);have HST:=Za (hst.off (zM HB3.out (nlr _)));have HSL:=Za oc.row;clear g0 g1 g2 g3 g4 g5 g6 v0 v1 v2 v3 v4 v5 hst ho2 oc ol ot hb2 Q1 P1
  go_upto_region 14 with fail
  rw[HW3.out]
  by_cases hE3:E3=0
  rotate_left
  ·have hE3':(E3 != 0)=true:=by simp[hE3]
   rw[if_neg hE3]at HE;obtain rfl:=HE.out;rw[if_neg hE3]at HX;obtain rfl:=HX.out;clear hE3;obtain⟨r0,e0,r1,e1,r2,e2,r3,e3,r4,e4,r5,e5,r6,e6⟩:=Q3.res.seven
   go_wp2_with fail
   obtain⟨hR,hV,hB⟩:=yN (S:=S) (d:=Yu) Q3.res NdF.none Q3.hb (by omega) Q3.g2;exact bodyPost_ret (Zc rfl _ _ (w.heap.size+1+1) 31 _ (0,0) _ rfl hR Tryz.underlying31 rfl Tryz.sizeNode) rfl ⟨_,rfl,⟨_,_,_,_,_,_,rfl,hV⟩,hB⟩
  have hE3':(E3 != 0)=false:=by simp[hE3]
  have HE0:=Za hE3;clear hE3;have HGM:Hid (∀k,k=w.heap.size→Us S w.heap.size (w.heap.size+1+1+1) k):=fun k hk=>.inr (by omega);have hgd:=Q3.box.lt;have HPS:=Za (joinE_zero.1 (HE4.trans HE0.out)).2.clock;have HT:=Za fun W (ho:Off (fun k=>k=w.heap.size) w3 W)=>And.intro (S3.off ho (by omega)).c3 ((P3.box.off ho (by omega)).get 1 rfl);have HLT2:=Za fun W (ho:Off (fun k=>k=w.heap.size) w3 W) k (hk:Us S w.heap.size (w.heap.size+1+1+1) k)=>Nat.lt_of_lt_of_le (Q3.lt k hk) ho.size;have HC:=Za fun W (ho:Off (fun k=>k=w.heap.size) w3 W)=>join_ref _ _ d.base p.st.clock W (Q3.nd.base.off (ho.sub HGM.out)).here (Jq (P3.pf.st.off (ho.sub HGM.out))).here (by have:=HF.base;omega) (by have:=Zm.1 HPS.out;have:=HF.clock;omega);obtain⟨C,HCC⟩:∃C,Hid (joinC d.base p.st.clock=C):=⟨_,rfl⟩;simp only[HCC.out]at HC;have HCL:Hid (C.length=d.st.clock.length):=by unfold Hid;rw[←HCC.out];exact joinC_long (by have:=Zm.1 HO.base;omega) (by have:=Zm.1 HPS.out;omega)
  go_upto_region 16 with fail
  refine bE (fun i=>i==10) HT.out (fun W hg=>(Q3.box.below hg (nlr _)).get 4 rfl) fun W hg hO hS=>?_;have bx:=Q3.box.below hg (nlr _);refine yD 0 (.agg #[.slice s1 J.clock.length t1,.slice s2 J.lives.length t2,.slice s3 J.tals.length t3]) ?_;refine yD 1 (.pointer (some ⟨w.heap.size,4,none⟩)) ?_;refine yD 2 (.slice a4 d.base.length c4) ?_;refine yD 3 (.pointer (some ⟨w.heap.size+1,1,none⟩)) ?_;refine yD 4 (.pointer (some ⟨w.heap.size+1,1,none⟩)) ?_;refine yD 5 (.slice b1 p.st.clock.length e1) ?_;refine yD 7 (.pointer (some ⟨w.heap.size,1,none⟩)) ?_
  repeat'
   first
   |refine eD ?_ (by decide+kernel)
   |refine yT 7 (.pointer (some ⟨w.heap.size,1,none⟩)) ?_ (hs:=by decide+kernel)
   |refine yU 7 (.pointer (some ⟨w.heap.size,1,none⟩)) ?_
   |refine yT 9 (.pointer (some ⟨w.heap.size,4,none⟩)) ?_ (hs:=by decide+kernel)
   |refine yU 9 (.pointer (some ⟨w.heap.size,4,none⟩)) ?_
   |refine aR (cR 6 ?_ (cR 8 ?_ (cR 10 ?_ nR)))
   |exact fun _ h=>absurd h (by decide+kernel)
   | (refine fun(_:Tg 6) _ K hK=>?_
      go_simp;refine(HC.out _ hO).mono ?_;rintro e W ⟨v6,rfl,oj,hb⟩;have Rf:=oj.fix (HLT2.out _ hO);obtain⟨aJ,cJ,rfl,-⟩:=id oj.row;go_simp;have bx:=bx.below hb (nlr _);have hO:=hO.trans (zM hb (nlr _));have hS:=And.intro (HT.out _ hO) (bx.get 4 rfl)
      refine kS hK hS ?_)
   | (refine fun(_:Tg 8) _ K hK=>?_
      have r1:=bx.get 1 rfl;have r2:=bx.get 2 rfl;have r3:=bx.get 3 rfl;have e1:=bx.free 1;have e2:=bx.free 2;have e3:=bx.free 3;go_simp;obtain⟨W,HW,hof,hbx⟩:=st3 W w.heap.size (.slice s1 J.clock.length t1) (.slice s2 J.lives.length t2) (.slice s3 J.tals.length t3);rw[HW.out];have bx:=hbx bx;have zs:=hof.size;have hO:=hO.trans hof
      try have o1:=o1.off hof hgd
      try have o4:=o4.off hof hgd
      try have b6:=b6.off hof (by have:=c6;omega)
      try have L:=L.off (hof.sub HGM.out)
      try have Kf:=Kf.off (hof.sub HGM.out)
      try have Rf:=Rf.off (hof.sub HGM.out)
      have hS:=And.intro (HT.out _ hO) (bx.get 4 rfl)
      refine kS hK hS ?_)
   | (refine fun(_:Tg 10) _ K hK=>?_
      have r1:=bx.get 4 rfl;have e1:=bx.free 4;go_simp;obtain⟨W,HW,hof,hbx⟩:=st1R Rf w.heap.size 4;rw[HW.out];have bx:=hbx bx;have hO:=hO.trans hof
      try have o1:=o1.off hof hgd
      try have o4:=o4.off hof hgd
      try have b6:=b6.off hof (by have:=c6;omega)
      try have L:=L.off (hof.sub HGM.out)
      try have Kf:=Kf.off (hof.sub HGM.out)
      try have Rf:=Rf.off (hof.sub HGM.out)
      have hT:=HT.out _ hO
      refine kD hK hT ?_)
  obtain rfl:(⟨d.self,J,C,Yc d.log C,d.known⟩:NdS)=D:=by rw[←HDD.out,←HCC.out];rfl
  have Q4:=Za (Q3.done (d':=⟨d.self,J,C,d.log,d.known⟩) hO bx ⟨HST.off (hO.sub HGM.out),Rf,Q3.nd.log.off (hO.sub HGM.out),Q3.nd.kn.off (hO.sub HGM.out)⟩);have P4:=Za (P3.off hO (by omega));clear Q3 P3 bx hO Rf;obtain⟨g0,g1,g2,g3,g4,g5,g6⟩:=Q4.box.c7
  go_wp2_with fail
  refine(lacks_fix _ Q4.nd.log Q4.nd.base.here (HRL.out C HCL.out) (by have:=HF.few;simp only;omega) Q4.lt rfl).mono ?_;rintro e w5 ⟨u5,rfl,ho5,hb5⟩;obtain⟨aL,nL,cL,rfl⟩:=ho5.form;have Q5:=Q4.step hb5;have Q6:=Za (Q5.log ho5);have P6:=Za ((P4.step hb5).off ((Off.refl (fun k=>k=w.heap.size) w5).set rfl 5 (.slice aL nL cL)) (by omega));have b5':=Q5.box.get 5 rfl;have f5:=Q5.box.free 5;clear Q5 ho5 hb5 Q4 P4 g0 g1 g2 g3 g4 g5 g6
  go_wp2_with fail
  go_meet
  exact⟨_,_,_,_,_,_,Q6,P6,HE0⟩
 obtain⟨x1,x2,x3,x4,x5,x6,QD,PD,hE3⟩:=hcut;obtain⟨w4,rfl⟩:∃w4,w4=wc:=⟨wc,rfl⟩;rw[if_pos hE3.out]at HE;obtain⟨F,HFF⟩:∃F,Hid (upsE D p.ups=F):=⟨_,rfl⟩;obtain⟨U,HUU⟩:∃U,Hid (yQ D p.ups=U):=⟨_,rfl⟩;rw[HFF.out,HUU.out]at HE;rw[HUU.out]at HX;have HOK:=(HO.toOkM.tst (HE3.trans hE3.out)).1;rw[HD.out]at HOK;have HOK:=Za HOK;have hul:=PD.pf.ups.log.len_le;clear Q1 P1 hE3;obtain⟨v0,v1,v2,v3,v4,v5⟩:=PD.box.c6
 go_wp2_with fail
 clear v0 v1 v2 v3 v4 v5
 go_loopw [79] (fun iv wr=>∃(k:Nat) (x1 x2 x3 x4 x5 x6:Value) (d2:NdS),k≤p.ups.length∧iv=.int .i64 k∧Hid (FrN S (w.heap.size+1+1+1) w wr (w.heap.size+1+1) [.int .i64 0,.slice none 0 0,.slice none 0 0,.slice none 0 0,.slice none 0 0,.slice none 0 0,.slice none 0 0] 31 x1 x2 x3 x4 x5 x6 d2)∧Hid (PrN S (w.heap.size+1+1+1) w wr (.slice b1 p.st.clock.length e1) (.slice b2 p.st.lives.length e2) (.slice b3 p.st.tals.length e3) (.slice b4 p.ups.length e4) (.slice b5 p.clock.length e5) p)∧Hid (OkM d.st.clock.length d2)∧Hid (upsE d2 (p.ups.drop k)=F)∧Hid (yQ d2 (p.ups.drop k)=U)) (fun iv _=>p.ups.length - (intOf iv).toNat)
 case atStart=>exact⟨0,_,_,_,_,_,_,D,Nat.zero_le _,rfl,QD,PD,HOK,HFF,HUU⟩
 obtain⟨k,x1,x2,x3,x4,x5,x6,d2,hk,rfl,Q2,P2,OK2,HF2,HU2⟩:=hrel;obtain⟨w5,rfl⟩:∃w5,w5=wr:=⟨wr,rfl⟩;clear QD PD HOK;obtain⟨m1,n1,m2,n2,m3,n3,m4,n4,m5,n5,m6,n6,rfl,rfl,rfl,rfl,rfl,rfl⟩:=Q2.form;have hgd5:=Q2.box.lt
 by_cases hlt:k<p.ups.length
 rotate_left
 ·have hlt':¬(k:Int)<(p.ups.length:Int):=by omega
  rw[List.drop_eq_nil_of_le (by omega)]at HF2 HU2;obtain rfl:0=F:=HF2.out;obtain rfl:d2=U:=HU2.out;rw[if_pos rfl]at HE;have g1:=Q2.box.get 1 rfl;have v5:=P2.box.get 5 rfl
  go_wp2_with fail
  refine(sees_ref _ _ d2.st.clock p.clock _ (Jq Q2.nd.st).here P2.pf.clk.here).mono ?_;rintro e w' ⟨rfl,hw'⟩;rw[hw'];clear hw' w';obtain⟨s1,HS1⟩:∃s,Hid (Ju d2.st.clock p.clock=s):=⟨_,rfl⟩;rw[HS1.out];rw[HS1.out]at HE
  cases s1
  ·rw[if_neg (by decide)]at HE;obtain rfl:=HE.out;rw[if_neg (by decide)]at HX;obtain rfl:=HX.out;obtain⟨r0,e0,r1,e1,r2,e2,r3,e3,r4,e4,r5,e5,r6,e6⟩:=Q2.res.seven
   go_wp2_with fail
   obtain⟨hR,hV,hB⟩:=yN (S:=S) (d:=Yu) Q2.res NdF.none Q2.hb (by omega) Q2.g2;exact bodyPost_ret (Zc rfl _ _ (w.heap.size+1+1) 31 _ (0,0) _ rfl hR Tryz.underlying31 rfl Tryz.sizeNode) rfl ⟨_,rfl,⟨_,_,_,_,_,_,rfl,hV⟩,hB⟩
  rw[if_pos rfl]at HE;obtain rfl:=HE.out;rw[if_pos rfl]at HX;obtain⟨j,rfl⟩:∃j:Nat,i=j:=⟨i.toNat,by omega⟩;have hkl2:d2.known.length=d.known.length:=by have:=OK2.kl;have:=HKL.out;omega
  have hjl:j<d2.known.length:=by omega
  obtain⟨x,hx⟩:∃x,d2.known[j]? =some x:=⟨_,List.getElem?_eq_getElem hjl⟩;have HKX:Hid (d2.known.getD (j:Int).toNat []=x):=by unfold Hid;rw[Int.toNat_natCast,List.getD_eq_getElem?_getD,hx];rfl
  have HXL:Hid (x.length≤6):=by
   have h1:=(OK2.kg j hjl).1;rw[List.getD_eq_getElem?_getD,hx,Option.getD_some]at h1;have:=Zm.1 h1;have:=HF.clock;unfold Hid;omega
  obtain⟨J,HJ⟩:∃J,Hid (joinC x p.clock=J):=⟨_,rfl⟩;obtain⟨b,off,a7,c7,rfl,hcell,hrow⟩:=Q2.nd.kn.kn.at hx;have X5:=Za hrow;have q1':(j:Int)<(d2.known.length:Int):=by omega
  have HJL:=Za q1';have HK6:Hid (d2.known.length≤1000):=by unfold Hid;have:=HF.kl;omega
  have HSL:Hid (d2.self<d2.known.length):=by unfold Hid;have:=OK2.s1;have:=OK2.kl;omega
  clear hrow hx hkl2 hjl g1 v5;obtain⟨g0,g1⟩:=Q2.box.c2;have g6:=Q2.box.get 6 rfl;have v5:=P2.box.get 5 rfl;have HK31:=Za fun w' (hg:Zh w5 w')=>(And.intro (Yi hg g6) (And.intro (Yi hg g0) (And.intro (Yi hg g1) (And.intro (Yi hg v5) (Yi hg hcell)))))
  go_upto_region 31 with fail
  clear g0 g1 g6 v5 hcell;refine bD (fun i=>i==19) (fun _=>True) (Zi _) HK31.out fun wd hcd hHeld=>?_;refine yD 0 (.pointer (some ⟨w.heap.size,6,none⟩)) ?_;refine yD 1 (.slice (some ⟨b,off,none⟩) d2.known.length n6) ?_;refine yD 2 (.int .i64 (j:Int)) ?_;refine yD 3 (.pointer (some ⟨w.heap.size,6,none⟩)) ?_;refine yD 4 (.slice (some ⟨b,off,none⟩) d2.known.length n6) ?_;refine yD 5 (.int .i64 (j:Int)) ?_;refine yD 6 (.pointer (some ⟨b,off+j,none⟩)) ?_;refine yD 7 (.slice a7 x.length c7) ?_;refine yD 8 (.pointer (some ⟨w.heap.size+1,5,none⟩)) ?_;refine yD 9 (.slice b5 p.clock.length e5) ?_;refine yD 12 (.pointer (some ⟨w.heap.size,0,none⟩)) ?_;refine yD 13 (.int .i64 d2.self) ?_;refine yD 14 (.pointer (some ⟨w.heap.size,1,none⟩)) ?_;refine yD 15 (.pointer (some ⟨w.heap.size,1,none⟩)) ?_;refine yD 16 (.slice m1 d2.st.clock.length n1) ?_;refine oD 10 fun K hK=>?_;go_simp;refine(join_ref _ _ x p.clock _ (X5.below hcd (nlr _)) (P2.step hcd).pf.clk.here (by have:=HXL.out;omega) (by have:=HPL.out;have:=HF.kl;omega)).mono ?_;rintro e w_10 ⟨v10,rfl,ho10,hb_10⟩;have RF:=ho10.fix (Q2.step hcd).lt;rw[HJ.out]at RF ho10;obtain⟨aJ,cJ,rfl,-⟩:=id ho10.row;go_simp;have hg_10:Zh w5 w_10:=Zd hcd hb_10;have hH_10:=HK31.out _ hg_10;refine kS hK hH_10 ?_;clear hK K;refine oD 11 fun K hK=>?_;go_simp;refine(set_fix _ (Q2.step hg_10).nd.kn RF (by omega) HJL.out HK6.out (Q2.step hg_10).lt).mono ?_;rintro e w_a ⟨v11,rfl,hk11,hb_a⟩;obtain⟨aK,nK,cK,rfl⟩:=hk11.form;go_simp;have hg_a:Zh w5 w_a:=Zd hg_10 hb_a;have hH_a:=HK31.out _ hg_a;refine kS hK hH_a ?_;clear hK K;refine oD 17 fun K hK=>?_;go_simp;refine(set_fix _ hk11 (Jq (Q2.step hg_a).nd.st) OK2.s0 (by rw[List.length_set];exact HSL.out) (by rw[List.length_set];exact HK6.out) (Q2.step hg_a).lt).mono ?_;rintro e w_c ⟨v17,rfl,hk17,hb_c⟩;obtain⟨aZ,nZ,cZ,rfl⟩:=hk17.form;go_simp;have hg_c:Zh w5 w_c:=Zd hg_a hb_c;have hH_c:=HK31.out _ hg_c;refine kS hK hH_c ?_;clear hK K;refine yD 18 (.pointer (some ⟨w.heap.size,6,none⟩)) ?_;refine oD 19 fun K hK=>?_;have Q9:=Za (Q2.step hg_c);have r6:=Q9.box.get 6 rfl;have e6:=Q9.box.free 6;go_simp;refine kD hK (trivial) ?_;clear hK K;refine eD ?_;have Q13:=Za (Q9.kn hk17);obtain⟨w13,HW13⟩:∃w13,Hid (w_c.setCell ⟨w.heap.size,6,none⟩ (.slice aZ nZ cZ)=w13):=⟨_,rfl⟩;simp only[HW13.out]at Q13;rw[HW13.out];clear r6 e6;obtain rfl:(⟨d2.self,d2.st,d2.base,d2.log,(d2.known.set (j:Int).toNat J).set d2.self.toNat d2.st.clock⟩:NdS)=X:=by rw[←HX.out,←HJ.out,←HKX.out];rfl
  obtain⟨g0,g1,g2,g3,g4,g5,g6⟩:=Q13.box.c7;obtain⟨r0,e0,r1,e1,r2,e2,r3,e3,r4,e4,r5,e5,r6,e6⟩:=Q13.res.seven
  go_wp2_with fail
  obtain⟨hR,hV,hB⟩:=yN Q13.res Q13.nd Q13.hb (by omega) Q13.g2;exact bodyPost_ret (Zc rfl _ _ (w.heap.size+1+1) 31 _ (0,0) _ rfl hR Tryz.underlying31 rfl Tryz.sizeNode) rfl ⟨_,rfl,⟨_,_,_,_,_,_,rfl,hV⟩,hB⟩
 obtain⟨us0,hus,hsl0,hrs0⟩:=P2.pf.ups;obtain⟨⟨⟨ua,us,uk,uy,ui⟩,sv⟩,hu⟩:∃q,us0[k]? =some q:=⟨_,List.getElem?_eq_getElem (by rw[←hus,List.length_map]at hlt;exact hlt)⟩;have hup:p.ups[k]? =some ⟨ua,us,uk,uy,ui⟩:=by rw[←hus,List.getElem?_map,hu];rfl
 obtain⟨b,off,hadr,hc⟩:=hsl0.here.at hu;have hrow:=hrs0 _ (List.mem_of_getElem? hu)
 simp only at hrow
 obtain⟨a9,c9,rfl,-⟩:=id hrow.here;subst hadr;have c0:w5.cell? ⟨b,off+k*5,none⟩=some (.int .i64 ua):=hc 0 _ rfl;have c1:=hc 1 _ rfl;have c2:=hc 2 _ rfl;have c3:=hc 3 _ rfl;have c4:=hc 4 _ rfl;rw[drop_cons_of hup]at HF2 HU2;replace HU2:Hid (yQ (tuX d2 ⟨ua,us,uk,uy,ui⟩) (p.ups.drop (k+1))=U):=HU2;unfold upsE at HF2;have hlt':(k:Int)<(p.ups.length:Int):=by omega
 have HLK:=Za hlt;obtain⟨w6,HW6,U6,HB6,-⟩:=xW w5 [.int .i64 ua,.slice a9 us.length c9,.int .i64 uk,.int .i64 uy,.int .i64 ui] 33;have Q6:=Za (Q2.step HB6.out);have P6:=Za (P2.step HB6.out);have RW6:=Za (hrow.off (zM HB6.out (nlr _)));clear hus hsl0 hrs0 hu hup hc hrow Q2 P2 HB6
 go_upto_region 21 with fail
 rw[HW6.out];clear c0 c1 c2 c3 c4;obtain⟨sk,HSK⟩:∃sk,Hid (skipB d2 ⟨ua,us,uk,uy,ui⟩=sk):=⟨_,rfl⟩;unfold tuE at HF2;unfold tuX at HF2 HU2;rw[HSK.out]at HF2 HU2
 go_cut [93] (fun c wx=>c=.bool sk∧Hid (Below w6.heap.size w6 wx))
 case first=>
  unfold skipB at HSK;have HLN:Hid ((d2.st.clock.length:Int)=d.known.length):=by unfold Hid;have:=OK2.len;have:=HKL.out;omega
  rw[HLN.out]at HSK;obtain⟨E5,HE5⟩:∃E5,Hid (Zz ⟨ua,us,uk,uy,ui⟩ d.known.length=E5):=⟨_,rfl⟩;rw[HE5.out]at HSK;obtain⟨u0,u1,u2,u3,u4⟩:=U6.c5
  go_wp2_with fail
  refine(wrongU_ref _ ⟨ua,us,uk,uy,ui⟩ _ _ ⟨_,rfl,RW6.here⟩).mono ?_;rintro e w7 ⟨rfl,hb7⟩;rw[HE5.out];have U7:=Za (U6.below hb7 (nlr _));have Q7:=Za (Q6.step hb7);clear u0 u1 u2 u3 u4;obtain⟨u0,u1,u2,u3,u4⟩:=U7.c5;have g1:=Q7.box.get 1 rfl
  by_cases hE5:E5=0
  rotate_left
  ·have hE5':(E5==0)=false:=by simp[hE5]
   rw[decide_eq_false hE5]at HSK;obtain rfl:false=sk:=HSK.out;clear hE5
   go_wp2_with fail
   go_meet
   exact⟨rfl,hb7⟩
  have hE5':(E5==0)=true:=by simp[hE5]
  rw[decide_eq_true hE5,Bool.true_and]at HSK;have hwu:=HE5.trans hE5;have HFU:=Za (xY hwu);have hau:Hid (ua<d2.st.clock.length):=by unfold Hid;have:=(Xj hwu).2.2.1;rw[HLN.out];exact this
  clear hE5 hwu
  go_wp2_with fail
  refine(hasU_ref _ _ d2.st.clock ⟨ua,us,uk,uy,ui⟩ _ (Jq Q7.nd.st).here ⟨_,rfl,(RW6.off (zM hb7 (nlr _))).here⟩ HFU.out hau.out).mono ?_;rintro e w8 ⟨rfl,hb8⟩;rw[HSK.out];have HB8:=Za (Zb hb7 hb8);clear u0 u1 u2 u3 u4 g1
  go_wp2_with fail
  go_meet
  exact⟨rfl,HB8⟩
 obtain⟨rfl,hb7⟩:=hcut;obtain⟨w7,rfl⟩:∃w7,w7=wc:=⟨wc,rfl⟩;have Q7:=Za (Q6.step hb7.out);have P7:=Za (P6.step hb7.out);have U7:=Za (U6.below hb7.out (nlr _));have RW7:=Za (RW6.off (zM hb7.out (nlr _)));clear Q6 P6 U6 RW6 hb7
 cases sk
 rotate_left
 ·rw[if_pos rfl,if_pos rfl,if_pos rfl]at HF2;rw[if_pos rfl]at HU2
  go_wp2_with fail
  go_roundw
  case rel=>exact⟨k+1,_,_,_,_,_,_,d2,by have:=HLK.out;omega,by go_num,Q7,P7,OK2,HF2,HU2⟩
  case measure=>simp[intOf];omega
 simp only[Bool.false_eq_true,if_false]at HF2 HU2;have hl2:=Q7.nd.log.log.len_le;obtain⟨g0,g1,g2,g3,g4,g5,g6⟩:=Q7.box.c7
 by_cases q3:300≤d2.log.length
 ·rw[show Qi d2 ⟨ua,us,uk,uy,ui⟩=5 by unfold Qi;rw[if_pos q3],if_neg (by decide)]at HF2;obtain rfl:=HF2.out;rw[if_neg (by decide)]at HE;obtain rfl:=HE.out;rw[if_neg (by decide)]at HX;obtain rfl:=HX.out;have q3':(300:Int)≤(d2.log.length:Int):=by omega
  obtain⟨r0,e0,r1,e1,r2,e2,r3,e3,r4,e4,r5,e5,r6,e6⟩:=Q7.res.seven
  go_wp2_with fail
  obtain⟨hR,hV,hB⟩:=yN (S:=S) (d:=Yu) Q7.res NdF.none Q7.hb (by omega) Q7.g2;exact bodyPost_ret (Zc rfl _ _ (w.heap.size+1+1) 31 _ (0,0) _ rfl hR Tryz.underlying31 rfl Tryz.sizeNode) rfl ⟨_,rfl,⟨_,_,_,_,_,_,rfl,hV⟩,hB⟩
 have q3':¬(300:Int)≤(d2.log.length:Int):=by omega
 have HPN:Hid (Qi d2 ⟨ua,us,uk,uy,ui⟩=Ol d2.st [⟨ua,us,uk,uy,ui⟩]):=by unfold Hid Qi;rw[if_neg q3]
 obtain⟨u0,u1,u2,u3,u4⟩:=U7.c5;obtain⟨w8,HW8,B8,HB8,-⟩:=xW w7 [.int .i64 ua,.slice a9 us.length c9,.int .i64 uk,.int .i64 uy,.int .i64 ui] 33;have Q8:=Za (Q7.step HB8.out);have P8:=Za (P7.step HB8.out);have U8:=Za (U7.below HB8.out (nlr _));have RW8:=Za (RW7.off (zM HB8.out (nlr _)));have L8:=Za (log_one (u:=⟨ua,us,uk,uy,ui⟩) B8.out RW8.here)
 go_wp2_with (rw[HW8.out])
 refine(play_ref4 _ _ d2.st [⟨ua,us,uk,uy,ui⟩] _ Q8.nd.st.here L8.out).mono ?_;rintro e w9 ⟨rv,rfl,ho9,hb9⟩;obtain⟨E6,HE6⟩:∃E6,Hid (Ol d2.st [⟨ua,us,uk,uy,ui⟩]=E6):=⟨_,rfl⟩;obtain⟨A6,HA6⟩:∃A6,Hid (playA d2.st [⟨ua,us,uk,uy,ui⟩]=A6):=⟨_,rfl⟩;obtain⟨P,HP⟩:∃P,Hid (yB d2.st [⟨ua,us,uk,uy,ui⟩]=P):=⟨_,rfl⟩;rw[HE6.out,HA6.out];rw[HE6.out]at HPN;rw[HPN.out]at HF2;rw[HP.out]at ho9;have hst:=ho9.fix (S:=Us S w.heap.size (w.heap.size+1+1+1)) fun k hk=>by have:=Q8.lt k hk;omega
 obtain⟨cv,lv,tv,rfl,oc,ol,ot⟩:=id ho9;obtain⟨s1,t1,rfl,-⟩:=id oc.row;obtain⟨s2,t2,rfl,-⟩:=id (Zl Ze ol);obtain⟨s3,t3,rfl,-⟩:=id (Zl Zg ot);obtain⟨w10,HW10,S10,F10,HB10,-⟩:=lay2 w9 [.slice s1 P.clock.length t1,.slice s2 P.lives.length t2,.slice s3 P.tals.length t3] 27 [.int .i64 E6,.int .i64 A6] 65;have HLT:=Za (Q8.step hb9).res.lt;have Q10:=Za ((Q8.step hb9).step HB10.out);have P10:=Za ((P8.step hb9).step HB10.out);have U10:=Za ((U8.below hb9 (nlr _)).below HB10.out (nlr _));have RW10:=Za ((RW8.off (zM hb9 (nlr _))).off (zM HB10.out (nlr _)));have HST:=Za (hst.off (zM HB10.out (nlr _)));clear g0 g1 g2 g3 g4 g5 g6 u0 u1 u2 u3 u4 Q7 U7 P7 RW7 Q8 U8 P8 RW8 L8 B8 hst ho9 oc ol ot hb9;have f0:=F10.get 0 rfl
 go_upto_region 25 with fail
 rw[HW10.out]
 by_cases hE6:E6=0
 rotate_left
 ·have hE6':(E6 != 0)=true:=by simp[hE6]
  rw[if_neg hE6]at HF2;obtain rfl:=HF2.out;rw[if_neg hE6]at HE;obtain rfl:=HE.out;rw[if_neg hE6]at HX;obtain rfl:=HX.out;clear hE6;have HK26:=Za fun w' (hg:Zh w10 w')=>Yi hg f0
  go_upto_region 26 with fail
  clear f0;refine bD (fun _=>false) (fun _=>True) (Zi _) HK26.out fun wd hcd hHeld=>?_;refine yD 0 (.agg #[.int .i64 0,.slice none 0 0,.slice none 0 0,.slice none 0 0,.slice none 0 0,.slice none 0 0,.slice none 0 0]) ?_;refine yD 1 (.pointer (some ⟨w9.heap.size+1,0,none⟩)) ?_;refine yD 2 (.int .i64 E6) ?_;refine oD 3 fun K hK=>?_;have Q11:=Za (Q10.step hcd);have hne:w.heap.size+1+1≠w9.heap.size+1:=by have:=HLT.out;omega
  obtain⟨r0,e0,r1,e1,r2,e2,r3,e3,r4,e4,r5,e5,r6,e6⟩:=Q11.res.seven;go_simp;have hH_3:=Xs (j:=6) (v:=.slice none 0 0) hne (Xs (j:=5) (v:=.slice none 0 0) hne (Xs (j:=4) (v:=.slice none 0 0) hne (Xs (j:=3) (v:=.slice none 0 0) hne (Xs (j:=2) (v:=.slice none 0 0) hne (Xs (j:=1) (v:=.slice none 0 0) hne (Xs (j:=0) (v:=.int .i64 0) hne hHeld))))));refine kS hK hH_3 ?_;clear hK K;refine oD 4 fun K hK=>?_;go_simp;have hH_b:=hH_3;refine kS hK hH_b ?_;clear hK K;refine eD ?_
  go_wp2_with fail
  obtain⟨hR,hV,hB⟩:=yN (S:=S) (d:=Yu) Q11.res NdF.none Q11.hb (by omega) Q11.g2;exact bodyPost_ret (Zc rfl _ _ (w.heap.size+1+1) 31 _ (0,0) _ rfl hR Tryz.underlying31 rfl Tryz.sizeNode) rfl ⟨_,rfl,⟨_,_,_,_,_,_,rfl,hV⟩,hB⟩
 have hE6':(E6 != 0)=false:=by simp[hE6]
 rw[if_pos hE6]at HF2;have HPD:Hid (zL d2 ⟨ua,us,uk,uy,ui⟩=⟨d2.self,P,d2.base,d2.log++[⟨ua,us,uk,uy,ui⟩],d2.known⟩):=by unfold Hid zL;rw[HP.out]
 have OKP:=(OK2.play (HPN.trans hE6)).1;rw[HPD.out]at OKP HF2 HU2;have HOKP:=Za OKP;clear hE6 OKP;obtain⟨ps,hps,hsl,hrs⟩:=Q10.nd.log;have hpl:ps.length=d2.log.length:=by rw[←hps,List.length_map]
 have HFEW:Hid (ps.length≤1000):=by unfold Hid;omega
 have HONE:=Za fun p hp=>(hrs p hp).here.one;have HGM:Hid (∀k,k=w.heap.size→Us S w.heap.size (w.heap.size+1+1+1) k):=fun k hk=>.inr (by omega);have hgd:=Q10.box.lt;have HT:=Za fun W (ho:Off (fun k=>k=w.heap.size) w10 W)=>And.intro (U10.off ho (by omega)).c5 (S10.off ho (by have:=HLT.out;omega)).c3;have HSL:=Za fun W (ho:Off (fun k=>k=w.heap.size) w10 W)=>hsl W (ho.sub HGM.out);have HPS:=Za hps;have HRS:=Za hrs;have HCK:=RW10;have HLB:=Za Q10.lt;clear hps hsl hrs hpl
 go_upto_region 27 with fail
 clear f0;refine bE (fun i=>i==11) HT.out (fun W hg=>(Q10.box.below hg (nlr _)).get 5 rfl) fun W hg hO hS=>?_;have bx:=Q10.box.below hg (nlr _);refine yD 0 (.agg #[.slice s1 P.clock.length t1,.slice s2 P.lives.length t2,.slice s3 P.tals.length t3]) ?_;refine yD 2 (.pointer (some ⟨w.heap.size,5,none⟩)) ?_;refine yD 3 (.slice m5 d2.log.length n5) ?_;refine yD 5 (.agg #[.int .i64 ua,.slice a9 us.length c9,.int .i64 uk,.int .i64 uy,.int .i64 ui]) ?_;refine yD 8 (.pointer (some ⟨w.heap.size,1,none⟩)) ?_
 repeat'
  first
  |refine eD ?_ (by decide+kernel)
  |refine yT 8 (.pointer (some ⟨w.heap.size,1,none⟩)) ?_ (hs:=by decide+kernel)
  |refine yU 8 (.pointer (some ⟨w.heap.size,1,none⟩)) ?_
  |refine yT 10 (.pointer (some ⟨w.heap.size,5,none⟩)) ?_ (hs:=by decide+kernel)
  |refine yU 10 (.pointer (some ⟨w.heap.size,5,none⟩)) ?_
  |refine aR (cR 1 ?_ (cR 4 ?_ (cR 6 ?_ (cR 7 ?_ (cR 9 ?_ (cR 11 ?_ nR))))))
  |exact fun _ h=>absurd h (by decide+kernel)
  | (refine fun(_:Tg 1) _ K hK=>?_
     go_simp;have o1:=World.ownsRow_lit (base:=w10.heap.size) (e:=33) (size:=5) W #[] 0 hO.size (Nat.zero_le _) rfl;have zz:=hO.size;obtain⟨v1,hv1⟩:∃v1,Hid (Value.slice (some ⟨W.heap.size,0,none⟩) 0 0=v1):=⟨_,rfl⟩;obtain⟨W,HW,-,hb,hs⟩:=xW W [] 33;rw[HW.out,hv1.out]at o1 ⊢;replace o1:OwR W w10.heap.size _ []:=o1;have zn:=Nat.lt_of_lt_of_le (Nat.lt_succ_self _) (Nat.le_of_eq hs.out.symm);have bx:=bx.below hb.out (nlr _)
     try have b6:=b6.below hb.out (nlr _)
     have hO:=hO.trans (zM hb.out (nlr _));have hS:=And.intro (HT.out _ hO) (bx.get 5 rfl)
     refine kS hK hS ?_)
  | (refine fun(_:Tg 4) _ K hK=>?_
     obtain⟨v4,W,hrun,o4,hgr,hbl⟩:=app_log o1 (HSL.out _ hO) HONE.out HFEW.out hO.size;refine step_run hrun ?_;clear hrun
     try have b6:=Box.grownN b6 hgr (by rw[←hv1.out];intro e;simp[Value.ownBlock]at e;omega)
     have zc:=hbl.size;have bx:=bx.low hbl hgd;have hO:=hO.low hbl;have hS:=And.intro (HT.out _ hO) (bx.get 5 rfl)
     refine kS hK hS ?_)
  | (refine fun(_:Tg 6) _ K hK=>?_
     go_simp;have c6:=hO.size;obtain⟨W,HW,b6,hb,hs⟩:=xW W [.int .i64 ua,.slice a9 us.length c9,.int .i64 uk,.int .i64 uy,.int .i64 ui] 33;rw[HW.out];have zn:=Nat.lt_of_lt_of_le (Nat.lt_succ_self _) (Nat.le_of_eq hs.out.symm);have b6:=b6.out;have bx:=bx.below hb.out (nlr _)
     try have o1:=o1.below hb.out (nlr _)
     try have o4:=o4.below hb.out (nlr _)
     have hO:=hO.trans (zM hb.out (nlr _));have hS:=And.intro (HT.out _ hO) (bx.get 5 rfl)
     refine kS hK hS ?_)
  | (refine fun(_:Tg 7) _ K hK=>?_
     obtain⟨v7,W,hrun,o7,hbl⟩:=app_one (u:=⟨ua,us,uk,uy,ui⟩) o4 b6 rfl HFEW.out hO.size;refine step_run hrun ?_;clear hrun;have bx:=bx.low hbl hgd;have hO:=hO.low hbl;have L:=Og.snoc HPS.out HRS.out HCK.out (hO.sub HGM.out) o7 HLB.out;obtain⟨aV,nV,cV,rfl⟩:=L.form;have hS:=And.intro (HT.out _ hO) (bx.get 5 rfl)
     refine kS hK hS ?_)
  | (refine fun(_:Tg 9) _ K hK=>?_
     have r1:=bx.get 1 rfl;have r2:=bx.get 2 rfl;have r3:=bx.get 3 rfl;have e1:=bx.free 1;have e2:=bx.free 2;have e3:=bx.free 3;go_simp;obtain⟨W,HW,hof,hbx⟩:=st3 W w.heap.size (.slice s1 P.clock.length t1) (.slice s2 P.lives.length t2) (.slice s3 P.tals.length t3);rw[HW.out];have bx:=hbx bx;have zs:=hof.size;have hO:=hO.trans hof
     try have o1:=o1.off hof hgd
     try have o4:=o4.off hof hgd
     try have b6:=b6.off hof (by have:=c6;omega)
     try have L:=L.off (hof.sub HGM.out)
     try have Kf:=Kf.off (hof.sub HGM.out)
     try have Rf:=Rf.off (hof.sub HGM.out)
     have hS:=And.intro (HT.out _ hO) (bx.get 5 rfl)
     refine kS hK hS ?_)
  | (refine fun(_:Tg 11) _ K hK=>?_
     have r1:=bx.get 5 rfl;have e1:=bx.free 5;go_simp;obtain⟨W,HW,hof,hbx⟩:=st1L L w.heap.size 5;rw[HW.out];have bx:=hbx bx;have hO:=hO.trans hof
     try have o1:=o1.off hof hgd
     try have o4:=o4.off hof hgd
     try have b6:=b6.off hof (by have:=c6;omega)
     try have L:=L.off (hof.sub HGM.out)
     try have Kf:=Kf.off (hof.sub HGM.out)
     try have Rf:=Rf.off (hof.sub HGM.out)
     have hT:=HT.out _ hO
     refine kD hK hT ?_)
 all_goals
  have Q12:=Za (Q10.done (d':=⟨d2.self,P,d2.base,d2.log++[⟨ua,us,uk,uy,ui⟩],d2.known⟩) hO bx ⟨HST.off (hO.sub HGM.out),Q10.nd.base.off (hO.sub HGM.out),L,Q10.nd.kn.off (hO.sub HGM.out)⟩);have P12:=Za (P10.off hO (by omega))
  go_wp2_with fail
  go_roundw
  case rel=>exact⟨k+1,_,_,_,_,_,_,⟨d2.self,P,d2.base,d2.log++[⟨ua,us,uk,uy,ui⟩],d2.known⟩,by have:=HLK.out;omega,by go_num,Q12,P12,HOKP,HF2,HU2⟩
  case measure=>have:=HLK.out;simp[intOf];omega
end Go.Proofs.YtfhecilhcofboaaGreat
