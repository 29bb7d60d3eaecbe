/- state.playLives: what an update does to the lives. -/
import Derived.Test.YtfhecilhcofboaaGreatStG
namespace Go.Proofs.YtfhecilhcofboaaGreat
open Go.RowKit

theorem delete_any(fn:Nat)(caps:Array Value)(p:Zk→Bool)(eg:∀args w,(callFunc fn args).run Tryz.prog w=.ok (.enter fn args) w)(B:Nat)(v:Value)(l:List Zk)(w:World)(h:w.ownsRow B 106 5 v l.length (cellsS Zv l))
  (hp:∀w',w.grownBy w' v.ownBlock→∀x:Zk,Calls Tryz.prog fn (#[.agg #[.bool x.set,.int .i64 x.key,.int .i64 x.item,.int .i64 x.author,.int .i64 x.seq]]++caps) w' fun e w''=>e=.returned (.bool (p x))∧Below w'.heap.size w' w''):
  Calls Tryz.prog 130 #[v,.func (.func fn) #[] caps] w fun e w'=>∃v',e=.returned v'∧w'.ownsRow B 106 5 v' (l.filter fun y=> !p y).length (cellsS Zv (l.filter fun y=> !p y))∧v'.ownBlock=v.ownBlock∧w.grownBy w' v.ownBlock:=by
 rcases Qj h with⟨rfl,rfl⟩|⟨g,cap,rfl,hg,hh,hn,hm⟩
 ·refine(deleteFunc_nil fn caps p eg w (fun w' hb=>hp w' (Yg hb))).mono ?_;rintro e w' ⟨rfl,hb⟩;exact⟨_,rfl,World.ownsRow_nil _ _ _ _,rfl,Yg hb⟩
 refine(deleteFunc_fn fn caps p eg g cap l w hh hn hm hp).mono ?_;rintro e w' ⟨rfl,h1,h2⟩;have:=List.length_filter_le (fun y=> !p y) l;exact⟨_,rfl,h1.own Ze hg (by omega) hm,rfl,h2⟩

theorem insL_at{x:Zk}:∀{l:List Zk} {k:Nat},k≤l.length→x ∉ l→(∀(i:Nat) (y:Zk),i<k→l[i]? =some y→Yj y x<0)→(∀(i:Nat) (y:Zk),k≤i→l[i]? =some y→0≤Yj y x)→Js x l=l.take k++x::l.drop k
 |[],k,_,_,_,_=>by simp[Js]
 |y::r,0,_,hx,_,h2=>by
  have h3:=h2 0 y (nlr _) rfl
  have h4:Jd x y:=by
   rcases yJ x y with e|e|e
   ·exact e
   ·subst e;simp at hx
   have:=Jw.2 e;omega
  rw[Js,if_pos (zU.2 h4)]
  simp
 |y::r,k+1,hk,hx,h1,h2=>by
  have h3:=Jw.1 (h1 0 y (by omega) rfl);have h4:¬Xc x y=true:=fun e=>Uj x (Je (zU.1 e) h3);rw[Js,if_neg h4,insL_at (k:=k) (by simpa using hk) (fun h=>hx (List.mem_cons_of_mem _ h)) (fun i z hi hz=>h1 (i+1) z (by omega) (by simpa using hz)) (fun i z hi hz=>h2 (i+1) z (by omega) (by simpa using hz))]
  simp
theorem inOrder_get{l:List Zk}(h:Yx l){i j:Nat}{y z:Zk}(hij:i<j)(hy:l[i]? =some y)(hz:l[j]? =some z):Jd y z:=by
 obtain⟨h1,rfl⟩:=List.getElem?_eq_some_iff.1 hy;obtain⟨h2,rfl⟩:=List.getElem?_eq_some_iff.1 hz;exact List.pairwise_iff_getElem.1 h i j h1 h2 hij
theorem inOrder_mono{l:List Zk}(h:Yx l)(x:Zk):∀(i j:Nat) (y z:Zk),i≤j→l[i]? =some y→l[j]? =some z→Yj z x<0→Yj y x<0:=by
 intro i j y z hij hy hz hc
 rcases Nat.lt_or_ge i j with hlt|hge
 ·exact Jw.2 (Je (inOrder_get h hlt hy hz) (Jw.1 hc))
 obtain rfl:i=j:=by omega
 rw[hy]at hz;simp only[Option.some.injEq]at hz;subst hz;exact hc
set_option maxRecDepth 100000 in
set_option maxHeartbeats 1000000 in
theorem playLives_fn(v uv:Value)(u:Upd)(l:List Zk)(w0 w:World)(h0:Jf w0 uv u)(hb0:Below w0.heap.size w0 w)(ho:w.ownsRow w0.heap.size 106 5 v l.length (cellsS Zv l))(hf:FitU u)(hord:Yx l)(hnew:∀x,xR u=some x→x ∉ l)(hbig:l.length≤900000000):
  Calls Tryz.prog 123 #[v,uv] w fun e w'=>∃v',e=.returned v'∧w'.ownsRow w0.heap.size 106 5 v' (Xl l u).length (cellsS Zv (Xl l u))∧w.grownBy w' v.ownBlock:=by
 have hin:=h0;obtain⟨sv,rfl,hs⟩:=h0;obtain⟨a5,cap5,rfl,-,-,-⟩:=id hs;have HB1:=Za (Zb hb0 (bpl w (.cells #[.int .i64 u.author,.slice a5 u.seen.length cap5,.int .i64 u.kind,.int .i64 u.key,.int .i64 u.item] 33)));have X1:=Za (Box.new w [.int .i64 u.author,.slice a5 u.seen.length cap5,.int .i64 u.kind,.int .i64 u.key,.int .i64 u.item] 33);have HG1:Hid (w.grownBy (w.alloc (.cells #[.int .i64 u.author,.slice a5 u.seen.length cap5,.int .i64 u.kind,.int .i64 u.key,.int .i64 u.item] 33)) v.ownBlock):=Yg (bpl _ _);have O1:=Za (Zp ho (bpl w (.cells #[.int .i64 u.author,.slice a5 u.seen.length cap5,.int .i64 u.kind,.int .i64 u.key,.int .i64 u.item] 33)) (nlr _));have hlt:=ho.lt;have HLT:=Za hlt;have HIN:=Za hin;have HF:=Za hf;have hszw:=hb0.size;clear hs hb0 ho hlt hin
 go_enter Tryz.func123,Tryz.ntmps123
 go_wp2_with fail
 refine(goes_fn _ u w0 _ v.ownBlock HIN.out HB1.out (fun k hk=>⟨(HLT.out k hk).1,by have:=(HLT.out k hk).2;rw[World.size_alloc];omega⟩)).mono ?_;rintro e w2 ⟨fn,caps,rfl,eg,hp,hb⟩;have HP:=Za hp;have HEG:=Za eg;have HB2:=Za (Zb HB1.out hb);have X2:=Za (X1.below hb (nlr _));have HG2:Hid (w.grownBy w2 v.ownBlock):=Zy HG1.out (Yg hb);have O2:=Za (Zp O1.out hb (nlr _));clear hp eg hb HB1 X1 HG1 O1
 go_wp2_with fail
 refine(delete_any fn caps (Yy u) HEG.out w0.heap.size v l w2 O2.out HP.out).mono ?_;rintro e w3 ⟨v3,rfl,ho3,hv3,hg3⟩;have O3:=Za ho3;have HV3:=Za hv3;have HG3:Hid (w.grownBy w3 v.ownBlock):=Zy HG2.out hg3;have X3:=Za (X2.grownN hg3 (fun e=>by have:=(HLT.out _ e.symm).2;omega));have HB3:Hid (Below w0.heap.size w0 w3):=HB2.grown hg3 HB2.size (fun k hk=>(HLT.out k hk).1);clear ho3 hv3 hg3 HG2 X2 HB2 O2 HP HEG;have hxu:Hid (w.heap.size<w3.heap.size):=X3.lt;obtain⟨c0,c1,c2,c3,c4⟩:=X3.c5
 by_cases hk:u.kind=1∨u.kind=3
 ·obtain⟨b,HBk⟩:∃b:Bool,Hid (decide (u.kind=3)=b):=⟨_,rfl⟩;obtain⟨hf1,hf2,hf3,hf4⟩:=HF.out;obtain⟨k,hka⟩:∃k:Nat,u.author=k:=⟨u.author.toNat,by omega⟩;obtain⟨y,HY⟩:∃y,Hid (Uc u=y):=⟨_,rfl⟩;have hyk:u.seen.getD k 0=y:=by rw[←HY.out];unfold Uc;rw[hka,Int.toNat_natCast]
  have hnl:Hid (xR u=some ⟨b,u.key,u.item,u.author,y+1⟩):=by
   unfold Hid xR;rw[if_pos hk,HBk.out,HY.out]
  have HSQ:Hid (∀w',Zh w3 w'→Calls Tryz.prog 115 #[.agg #[.int .i64 u.author,.slice a5 u.seen.length cap5,.int .i64 u.kind,.int .i64 u.key,.int .i64 u.item]] w' fun e w''=>e=.returned (.int .i64 (y+1))∧Below w'.heap.size w' w''):=fun w' hg=>
   seq_upd _ u k y w' (HIN.below (Zb HB3.out hg) (nlr _)) hka (by omega) hyk (by rw[←HY.out];exact hf3) (by rw[←HY.out];exact hf4)
  have HK:Hid (∀w',Zh w3 w'→w'.cell? ⟨w.heap.size,0,none⟩=some (.int .i64 u.author)∧w'.cell? ⟨w.heap.size,1,none⟩=some (.slice a5 u.seen.length cap5)∧w'.cell? ⟨w.heap.size,2,none⟩=some (.int .i64 u.kind)∧w'.cell? ⟨w.heap.size,3,none⟩=some (.int .i64 u.key)∧w'.cell? ⟨w.heap.size,4,none⟩=some (.int .i64 u.item)):=
   fun w' hg=>(X3.below hg (nlr _)).reads
  have HK3:Hid ((u.kind==3)=b):=by unfold Hid;rw[←HBk.out];rfl
  obtain⟨gu,HGU⟩:∃gu,Hid (w.heap.size=gu):=⟨_,rfl⟩
  have hkk:(u.kind != 1)=false∨((u.kind != 1)=true∧(u.kind != 3)=false):=by
   rcases hk with h|h
   ·exact .inl (by simp[h])
   exact .inr ⟨by simp[h],by simp[h]⟩
  have hk3b:=HK3.out;clear hka hyk hf1 hf2 hf3 hf4
  rcases hkk with hk1|⟨hk1,hk3⟩
  all_goals
   go_upto_region 4 with fail
   go_cut [5] (fun c wx=>∃gc,c=.pointer (some ⟨gc,0,none⟩)∧Hid (Box wx gc [.bool b,.int .i64 u.key,.int .i64 u.item,.int .i64 u.author,.int .i64 (y+1)] 106)∧Hid (Zh w3 wx))
   case first=>
    refine wp_region_held_drew (S:=fun w'=>w'.cell? ⟨w.heap.size,0,none⟩=some (.int .i64 u.author)∧w'.cell? ⟨w.heap.size,1,none⟩=some (.slice a5 u.seen.length cap5)∧w'.cell? ⟨w.heap.size,2,none⟩=some (.int .i64 u.kind)∧w'.cell? ⟨w.heap.size,3,none⟩=some (.int .i64 u.key)∧w'.cell? ⟨w.heap.size,4,none⟩=some (.int .i64 u.item)) (by kernel_rfl) (HK.out _ (Zf (Zi _))) (fun hHeld=>?_);refine ty 0 (.pointer (some ⟨w.heap.size,2,none⟩)) ?_;refine ty 1 (.int .i64 u.kind) ?_;refine ty 2 (.bool b) ?_;refine ty 3 (.pointer (some ⟨w.heap.size,3,none⟩)) ?_;refine ty 4 (.int .i64 u.key) ?_;refine ty 5 (.pointer (some ⟨w.heap.size,4,none⟩)) ?_;refine ty 6 (.int .i64 u.item) ?_;refine ty 7 (.pointer (some ⟨w.heap.size,0,none⟩)) ?_;refine ty 8 (.int .i64 u.author) ?_;refine ty 9 (.agg #[.int .i64 u.author,.slice a5 u.seen.length cap5,.int .i64 u.kind,.int .i64 u.key,.int .i64 u.item]) ?_;refine wpAnyH_ready (rs:=[10,12]) (by kernel_rfl) (by simp) ?_;refine rdc rfl (fun K hK=>?_) (rd1 rfl (fun K hK=>?_))
    ·go_simp;refine(HSQ.out _ (Zf (Zi _))).mono ?_;rintro e w' ⟨rfl,hb⟩;have hgr:=Zd (Zf (Zi w3)) hb;refine hK.out _ _ (HK.out _ hgr) (fun hHeld2=>?_);clear hK K hHeld
     try simp only[Act.put,Zt,Zs,Zr]
     refine ty 11 (.agg #[.bool b,.int .i64 u.key,.int .i64 u.item,.int .i64 u.author,.int .i64 (y+1)]) ?_;refine wr 12 fun K hK=>?_;go_simp;refine hK.out _ _ (HK.out _ (Vm _ hgr)) (fun hHeld3=>?_);clear hK K hHeld2
     try simp only[Act.put,Zt,Zs,Zr]
     refine wr 13 fun K hK=>?_;go_simp;refine hK.out _ _ (HK.out _ (Vm _ hgr)) (fun hHeld4=>?_);clear hK K hHeld3
     try simp only[Act.put,Zt,Zs,Zr]
     refine wpAnyH_done (by kernel_rfl) ?_ _
     go_wp2_with fail
     go_meet
     exact⟨_,rfl,Za (Box.new _ _ _),Za (Vm _ hgr)⟩
    go_simp;have hga:=Vm (.cells #[.bool false,.int .i64 0,.int .i64 0,.int .i64 0,.int .i64 0] 106) (Zf (Zi w3));have hz0:=Box.new w3.drew [.bool false,.int .i64 0,.int .i64 0,.int .i64 0,.int .i64 0] 106;refine hK.out _ _ (HK.out _ hga) (fun hHeld2=>?_);clear hK K hHeld
    try simp only[Act.put,Zt,Zs,Zr]
    refine wr 10 fun K hK=>?_;go_simp;refine(HSQ.out _ hga).mono ?_;rintro e w' ⟨rfl,hb⟩;have hgr:=Zd hga hb;have hz:Box w' w3.heap.size [.bool false,.int .i64 0,.int .i64 0,.int .i64 0,.int .i64 0] 106:=hz0.below hb (nlr _);refine hK.out _ _ (HK.out _ hgr) (fun hHeld3=>?_);clear hK K hHeld2 hb hz0 hga
    try simp only[Act.put,Zt,Zs,Zr]
    refine ty 11 (.agg #[.bool b,.int .i64 u.key,.int .i64 u.item,.int .i64 u.author,.int .i64 (y+1)]) ?_;obtain⟨z0,z1,z2,z3,z4⟩:=hz.c5;have f0:=hz.free 0;have f1:=hz.free 1;have f2:=hz.free 2;have f3:=hz.free 3;have f4:=hz.free 4;refine wr 13 fun K hK=>?_;go_simp;have hgs:Zh w3 (((((w'.setCell ⟨w3.heap.size,0,none⟩ (.bool b)).setCell ⟨w3.heap.size,1,none⟩ (.int .i64 u.key)).setCell ⟨w3.heap.size,2,none⟩ (.int .i64 u.item)).setCell ⟨w3.heap.size,3,none⟩ (.int .i64 u.author)).setCell ⟨w3.heap.size,4,none⟩ (.int .i64 (y+1))):=(((((Below.setCell hgr (nlr _) _).setCell (nlr _) _).setCell (nlr _) _).setCell (nlr _) _).setCell (nlr _) _);have hzs:=((((hz.set 0 (.bool b)).set 1 (.int .i64 u.key)).set 2 (.int .i64 u.item)).set 3 (.int .i64 u.author)).set 4 (.int .i64 (y+1));refine hK.out _ _ (HK.out _ hgs) (fun hHeld4=>?_);clear hK K hHeld3
    try simp only[Act.put,Zt,Zs,Zr]
    refine wpAnyH_done (by kernel_rfl) ?_ _
    go_wp2_with fail
    go_meet
    exact⟨_,rfl,Za hzs,Za hgs⟩
   obtain⟨gc,rfl,HC,HGR⟩:=hcut;obtain⟨w4,rfl⟩:∃w4,w4=wc:=⟨wc,rfl⟩;have hfl:=List.length_filter_le (fun y=> !Yy u y) l;have hx:Hid ((⟨b,u.key,u.item,u.author,y+1⟩:Zk) ∉ l.filter fun y=> !Yy u y):=fun hm=>hnew _ hnl.out (List.mem_filter.1 hm).1;have hord':Hid (Yx (l.filter fun y=> !Yy u y)):=List.Pairwise.filter _ hord;have hap:Hid (Xl l u=Js ⟨b,u.key,u.item,u.author,y+1⟩ (l.filter fun y=> !Yy u y)):=by unfold Hid Xl;rw[hnl.out]
   obtain⟨l',HL'⟩:∃l',Hid ((l.filter fun y=> !Yy u y)=l'):=⟨_,rfl⟩;rw[HL'.out]at hx hord' hap O3 hfl;have O4:=Za (Zp O3.out HGR.out (nlr _));have HG4:Hid (w.grownBy w4 v.ownBlock):=Zy HG3.out (Yg HGR.out);have hsz4:Hid (w0.heap.size≤w4.heap.size):=Nat.le_trans HB3.size (HGR.size);clear c0 c1 c2 c3 c4 O3 HG3 HB3 HK HSQ X3 HGR hnew hord;obtain⟨c0,c1,c2,c3,c4⟩:=HC.c5
   go_wp2_with fail
   refine(bsearch_live v3 l' ⟨b,u.key,u.item,u.author,y+1⟩ w4 (Zl Ze O4.out) (by omega) (inOrder_mono hord'.out _)).mono ?_;rintro e w5 ⟨kk,fo,rfl,⟨hq1,hq2,hq3,-⟩,hb⟩;have HE:Hid (Xl l u=l'.take kk++⟨b,u.key,u.item,u.author,y+1⟩::l'.drop kk):=by unfold Hid;rw[hap.out];exact insL_at hq1 hx.out hq2 hq3
   have O5:=Za (Zp O4.out hb (nlr _));have HC5:=Za (HC.below hb (nlr _));have HG5:Hid (w.grownBy w5 v.ownBlock):=Zy HG4.out (Yg hb);have hsz5:Hid (w0.heap.size≤w5.heap.size):=Nat.le_trans hsz4.out hb.size;clear hq2 hq3 hb O4 HC HG4 c0 c1 c2 c3 c4 hap hx hord' hsz4;obtain⟨c0,c1,c2,c3,c4⟩:=HC5.c5;have O6:=Za (Zp O5.out (bpl w5 (.cells #[.bool b,.int .i64 u.key,.int .i64 u.item,.int .i64 u.author,.int .i64 (y+1)] 106)) (nlr _));have V6:=Za (Box.new w5 [.bool b,.int .i64 u.key,.int .i64 u.item,.int .i64 u.author,.int .i64 (y+1)] 106);have HG6:=Za (xX HG5.out (.cells #[.bool b,.int .i64 u.key,.int .i64 u.item,.int .i64 u.author,.int .i64 (y+1)] 106));have hne:Hid (∀g,v3.ownBlock=some g→w5.heap.size≠g):=fun g hg=>by have:=(O5.lt g hg).2;omega
   go_wp2_with fail
   refine(insert_live w0.heap.size v3 kk l' ⟨b,u.key,u.item,u.author,y+1⟩ w5.heap.size _ O6.out V6.out hne.out (by have:=hsz5.out;rw[World.size_alloc];omega) hq1 (by omega)).mono ?_;rintro e w7 ⟨v7,rfl,ho7,hg7,-⟩;have O7:=Za ho7;have HG7:Hid (w.grownBy w7 v.ownBlock):=by rw[HV3.out]at hg7;exact Zy HG6.out hg7
   clear ho7 hg7 O5 O6 V6 HG5 HG6 c0 c1 c2 c3 c4 HC5
   go_wp2_with fail
   go_ret
   refine⟨_,rfl,?_,HG7.out⟩;have hl:(Xl l u).length=l'.length+1:=by rw[HE.out,List.length_append,List.length_cons,List.length_take,List.length_drop];omega
   rw[hl,HE.out];exact O7.out
 have h1:(u.kind != 1)=true:=by simp;omega
 have h3:(u.kind != 3)=true:=by simp;omega
 have hnl:Hid (xR u=none):=by unfold Hid xR;rw[if_neg hk]
 go_wp2_with fail
 go_ret
 refine⟨_,rfl,?_,HG3.out⟩;have e:Xl l u=l.filter fun y=> !Yy u y:=by unfold Xl;rw[hnl.out]
 rw[e];exact O3.out
end Go.Proofs.YtfhecilhcofboaaGreat
