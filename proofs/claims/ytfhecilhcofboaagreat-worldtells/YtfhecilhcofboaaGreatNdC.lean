/- A node that is copied. -/
import Derived.Test.YtfhecilhcofboaaGreatNdMem
import Derived.Test.YtfhecilhcofboaaGreatNdW
namespace Go.Proofs.YtfhecilhcofboaaGreat
open Go.RowKit

structure Fits (d:NdS):Prop where
 clock:d.st.clock.length≤6
 lives:d.st.lives.length≤400000000
 tals:d.st.tals.length≤100
 base:d.base.length≤6
 few:d.log.length≤300
 small:∀u ∈ d.log,Small u
 kl:d.known.length≤6
 known:∀k ∈ d.known,k.length≤6
theorem yF{d:NdS}(h:Vi d=0):Fits d:=by
 have ho:=Vk.1 h;obtain⟨-,n6,-,-⟩:=Zm.1 ho.st.clock;obtain⟨-,-,b3,-⟩:=Zm.1 ho.base;obtain⟨f1,f2⟩:=ho.st.few;have hkl:=ho.kl;refine⟨by omega,f1,f2,by omega,ho.few,fun u hu=>small_of (small_all d.log ho.fits u hu),by omega,fun k hk=>?_⟩;obtain⟨i,hi,rfl⟩:=List.getElem_of_mem hk;have:=(ho.kg i hi).1;rw[List.getD_eq_getElem?_getD,List.getElem?_eq_getElem hi]at this;obtain⟨-,-,k3,-⟩:=Zm.1 this;simp only[Option.getD_some]at k3;omega

theorem ownsRow_blockK{w:World}{B g:Nat}{e:TypeId}{L:List Value}{n:Nat}(h:Box w g L e)(hg:B≤g)(hn:L.length=n)(hm:n≤maxLen):w.ownsRow B e 1 (.slice (some ⟨g,0,none⟩) n n) n L:=
 ⟨by rw[hn,Nat.mul_one],.inr ⟨g,n,_,rfl,hg,h,nlr _,hm,by simp[hn],List.take_of_length_le (by simp[hn])⟩⟩
theorem xS:∀k,k≤6→madeCells #[.slice none 0 0] k=(List.replicate k (.slice none 0 0)).toArray
 |0,_=>by kernel_rfl
 |1,_=>by kernel_rfl
 |2,_=>by kernel_rfl
 |3,_=>by kernel_rfl
 |4,_=>by kernel_rfl
 |5,_=>by kernel_rfl
 |6,_=>by kernel_rfl
 |k+7,h=>by omega
theorem Tryz.infoClock:(Tryz.prog.info? 23).map (fun i=>(i.zero,i.size,i.bytes))=some (some (.slice none 0 0),1,24):=by kernel_rfl
theorem run_make_known{k:Nat}(hk:k≤6)(w:World):(Instr.makeSlice 29 (.int .i64 k) (.int .i64 k)).run Tryz.prog w=.ok (.slice (some ⟨w.heap.size,0,none⟩) k k) (w.alloc (.cells (madeCells #[.slice none 0 0] k) 23)):=
 run_make_row' 29 23 (.slice none 0 0) 24 Tryz.underlying29 Tryz.infoClock rfl .i64 .i64 k (by omega) (by omega) w

set_option maxRecDepth 100000 in
set_option maxHeartbeats 2000000 in
theorem copy_node(v:Value)(d:NdS)(w:World)(h:Vp w v d)(hf:Fits d):
  Calls Tryz.prog 36 #[v] w fun e w'=>∃rv,e=.returned rv∧Yo w' (w.heap.size+2) rv d∧Below w.heap.size w w':=by
 obtain⟨a1,c1,a2,c2,a3,c3,a4,c4,a5,c5,a6,c6,rfl,hs,hc,hb,hl,hkn⟩:=h.form;have hb0:=Below.plus (bpl w (.cells #[.int .i64 d.self,.slice a1 d.st.clock.length c1,.slice a2 d.st.lives.length c2,.slice a3 d.st.tals.length c3,.slice a4 d.base.length c4,.slice a5 d.log.length c5,.slice a6 d.known.length c6] 31)) (.cells #[.int .i64 0,.slice none 0 0,.slice none 0 0,.slice none 0 0,.slice none 0 0,.slice none 0 0,.slice none 0 0] 31);have G0:=Za ((Box.new w [.int .i64 d.self,.slice a1 d.st.clock.length c1,.slice a2 d.st.lives.length c2,.slice a3 d.st.tals.length c3,.slice a4 d.base.length c4,.slice a5 d.log.length c5,.slice a6 d.known.length c6] 31).plus (.cells #[.int .i64 0,.slice none 0 0,.slice none 0 0,.slice none 0 0,.slice none 0 0,.slice none 0 0,.slice none 0 0] 31));have R0:=Za (Box.new (w.alloc (.cells #[.int .i64 d.self,.slice a1 d.st.clock.length c1,.slice a2 d.st.lives.length c2,.slice a3 d.st.tals.length c3,.slice a4 d.base.length c4,.slice a5 d.log.length c5,.slice a6 d.known.length c6] 31)) [.int .i64 0,.slice none 0 0,.slice none 0 0,.slice none 0 0,.slice none 0 0,.slice none 0 0,.slice none 0 0] 31);rw[World.size_alloc]at R0;have S0:=Za (hs.below hb0 (nlr _));have BW:=Za hb;have UW:=Za hl;have KW:=Za hkn;have HB0:=Za hb0;have HF:=Za hf;clear h hs hc hb hl hkn hb0 hf;obtain⟨W1,HW1⟩:∃W1,Hid ((w.alloc (.cells #[.int .i64 d.self,.slice a1 d.st.clock.length c1,.slice a2 d.st.lives.length c2,.slice a3 d.st.tals.length c3,.slice a4 d.base.length c4,.slice a5 d.log.length c5,.slice a6 d.known.length c6] 31)).alloc (.cells #[.int .i64 0,.slice none 0 0,.slice none 0 0,.slice none 0 0,.slice none 0 0,.slice none 0 0,.slice none 0 0] 31)=W1):=⟨_,rfl⟩;have hsz:Hid (W1.heap.size=w.heap.size+1+1):=by unfold Hid;rw[←HW1.out,World.size_alloc,World.size_alloc]
 rw[HW1.out]at G0 R0 S0 HB0;have g1:=G0.get 1 rfl;have g2:=G0.get 2 rfl;have g3:=G0.get 3 rfl;have hkl:=HF.kl;have hmk:∀w:World,(Instr.makeSlice 29 (.int .i64 d.known.length) (.int .i64 d.known.length)).run Tryz.prog w=.ok (.slice (some ⟨w.heap.size,0,none⟩) d.known.length d.known.length) (w.alloc (.cells (madeCells #[.slice none 0 0] d.known.length) 23)):=fun w=>run_make_known hkl w;obtain⟨cs,HCS⟩:∃cs,Hid (madeCells #[.slice none 0 0] d.known.length=cs):=⟨_,rfl⟩;rw[HCS.out]at hmk
 go_enter Tryz.func36,Tryz.ntmps36
 go_wp2_with fail
 rw[HW1.out];refine(copy_state _ d.st _ S0.out (by have:=HF.clock;omega) HF.lives HF.tals).mono ?_;rintro e w2 ⟨v2,rfl,ho2,hb2⟩;obtain⟨x1,y1,x2,y2,x3,y3,rfl⟩:=ho2.formW;have G2:=G0.below hb2 (nlr _);have R2:=R0.below hb2 (nlr _);have HB2:=Zb HB0.out hb2;have ST2:=ho2.base (C:=w.heap.size+1+1) (by have:=hsz.out;omega);have g1:=G2.get 1 rfl;have g2:=G2.get 2 rfl;have g3:=G2.get 3 rfl;have g4:=G2.get 4 rfl;have f1:=G2.free 1;have f2:=G2.free 2;have f3:=G2.free 3;obtain⟨W3,HW3⟩:∃W3,Hid (((w2.setCell ⟨w.heap.size,1,none⟩ (.slice x1 d.st.clock.length y1)).setCell ⟨w.heap.size,2,none⟩ (.slice x2 d.st.lives.length y2)).setCell ⟨w.heap.size,3,none⟩ (.slice x3 d.st.tals.length y3)=W3):=⟨_,rfl⟩;have G3:=Za (((G2.set 1 (.slice x1 d.st.clock.length y1)).set 2 (.slice x2 d.st.lives.length y2)).set 3 (.slice x3 d.st.tals.length y3));have R3:=Za (((R2.away (g':=w.heap.size) (i:=1) (v:=.slice x1 d.st.clock.length y1) (by omega)).away (g':=w.heap.size) (i:=2) (v:=.slice x2 d.st.lives.length y2) (by omega)).away (g':=w.heap.size) (i:=3) (v:=.slice x3 d.st.tals.length y3) (by omega));have ST3:=Za (((ST2.away (g:=w.heap.size) (by omega) 1 (.slice x1 d.st.clock.length y1)).away (g:=w.heap.size) (by omega) 2 (.slice x2 d.st.lives.length y2)).away (g:=w.heap.size) (by omega) 3 (.slice x3 d.st.tals.length y3));have HB3:=Za (((HB2.setCell (p:=⟨w.heap.size,1,none⟩) (nlr _) (.slice x1 d.st.clock.length y1)).setCell (p:=⟨w.heap.size,2,none⟩) (nlr _) (.slice x2 d.st.lives.length y2)).setCell (p:=⟨w.heap.size,3,none⟩) (nlr _) (.slice x3 d.st.tals.length y3));rw[HW3.out]at G3 R3 ST3 HB3;clear ho2 hb2 G2 R2 HB2 ST2 S0 G0 R0 HB0
 go_wp2_with fail
 rw[HW3.out];clear g1 g2 g3 g4 f1 f2 f3;refine(Od _ d.base _ (BW.below HB3.out (nlr _)) (by have:=HF.base;omega)).mono ?_;rintro e w4 ⟨v4,rfl,ho4,hb4⟩;obtain⟨x4,y4,rfl,-⟩:=ho4.row;have hs3:=R3.lt;have G4:=G3.below hb4 (nlr _);have R4:=R3.below hb4 (nlr _);have g4:=G4.get 4 rfl;have g5:=G4.get 5 rfl;have f4:=G4.free 4;obtain⟨W5,HW5⟩:∃W5,Hid (w4.setCell ⟨w.heap.size,4,none⟩ (.slice x4 d.base.length y4)=W5):=⟨_,rfl⟩;have G5:=Za (G4.set 4 (.slice x4 d.base.length y4));have R5:=Za (R4.away (g':=w.heap.size) (i:=4) (v:=.slice x4 d.base.length y4) (by omega));have ST5:=Za ((ST3.below hb4 (nlr _)).away (g:=w.heap.size) (by omega) 4 (.slice x4 d.base.length y4));have B5:=Za ((ho4.mono (C:=w.heap.size+1+1) (by omega)).away (g:=w.heap.size) (by omega) 4 (.slice x4 d.base.length y4));have HB5:=Za ((Zb HB3.out hb4).setCell (p:=⟨w.heap.size,4,none⟩) (nlr _) (.slice x4 d.base.length y4));rw[HW5.out]at G5 R5 ST5 B5 HB5;clear ho4 hb4 G4 R4 G3 R3 ST3 HB3 hs3
 go_wp2_with fail
 rw[HW5.out];clear g4 g5 f4;refine(copy_log _ d.log _ (UW.below HB5.out (nlr _)) HF.small (by have:=HF.few;omega)).mono ?_;rintro e w6 ⟨v6,rfl,ho6,hb6⟩;obtain⟨x5,y5,rfl⟩:=ho6.form;have hs5:=R5.lt;have G6:=G5.below hb6 (nlr _);have R6:=R5.below hb6 (nlr _);have g5:=G6.get 5 rfl;have g6:=G6.get 6 rfl;have n1:¬(w6.heap.size=w.heap.size):=by have:=R6.lt;omega
 have n2:¬(w.heap.size=w6.heap.size):=by have:=R6.lt;omega
 have f5:=G6.free 5;obtain⟨W7,HW7⟩:∃W7,Hid (w6.setCell ⟨w.heap.size,5,none⟩ (.slice x5 d.log.length y5)=W7):=⟨_,rfl⟩;have G7:=Za (G6.set 5 (.slice x5 d.log.length y5));have R7:=Za (R6.away (g':=w.heap.size) (i:=5) (v:=.slice x5 d.log.length y5) (by omega));have ST7:=Za ((ST5.below hb6 (nlr _)).away (g:=w.heap.size) (by omega) 5 (.slice x5 d.log.length y5));have B7:=Za ((B5.below hb6 (nlr _)).away (g:=w.heap.size) (by omega) 5 (.slice x5 d.log.length y5));have U7:=Za ((ho6.base (C:=w.heap.size+1+1) (by omega)).away (g:=w.heap.size) (by omega) 5 (.slice x5 d.log.length y5));have HB7:=Za ((Zb HB5.out hb6).setCell (p:=⟨w.heap.size,5,none⟩) (nlr _) (.slice x5 d.log.length y5));rw[HW7.out]at G7 R7 ST7 B7 U7 HB7;have hw67:Hid (W7.heap.size=w6.heap.size):=by unfold Hid;rw[←HW7.out];simp
 have hR6:Hid (w.heap.size+1+1≤w6.heap.size):=by have:=R6.lt;unfold Hid;omega
 clear ho6 hb6 G6 R6 G5 R5 ST5 B5 HB5 hs5
 go_upto_region 5 with fail
 rw[HW7.out];clear g5 g6 f5 n1 n2;have g6:=(G7.plus (.cells cs 23)).get 6 rfl
 have X7:Hid (Box (W7.alloc (.cells cs 23)) w6.heap.size (List.replicate d.known.length (.slice none 0 0)) 23):=by
  have:=heap_alloc_new W7 (.cells cs 23);unfold Hid Box;rw[←hw67.out,this,←HCS.out,xS _ hkl]
 go_wp2_with fail
 clear g6
 go_loopw [25] (fun i wr=>∃(k:Nat) (qs:List (List Int×Value)),k≤d.known.length∧i=.int .i64 k∧Hid (qs.map (·.1)=d.known.take k)∧Hid (Box wr w6.heap.size (qs.map (·.2)++List.replicate (d.known.length - k) (.slice none 0 0)) 23)∧Hid (∀q ∈ qs,Own wr (w.heap.size+1+1) q.2 q.1)∧Hid (Below W7.heap.size W7 wr)) (fun i _=>d.known.length - (intOf i).toNat)
 case atStart=>exact⟨0,[],Nat.zero_le _,rfl,rfl,X7,Za (fun q hq=>by simp at hq),Za (bpl W7 _)⟩
 clear X7 hmk;obtain⟨k,qs,hk,rfl,HP,X20,O20,HB20⟩:=hrel;obtain⟨w20,rfl⟩:∃w20,w20=wr:=⟨wr,rfl⟩;have HBw:=Za (HB7.trans (HB20.mono HB7.size));have hqk:qs.length=k:=by have:=congrArg List.length HP.out;simp only[List.length_map,List.length_take]at this;omega
 by_cases hlt:k<d.known.length
 ·obtain⟨x,hx⟩:∃x,d.known[k]? =some x:=⟨_,List.getElem?_eq_getElem hlt⟩;have hx6:=HF.known x (List.mem_of_getElem? hx);obtain⟨b,off,a7,c7,rfl,hcell,hrow⟩:=KW.at hx;have hc1:=(HBw.cell (p:=⟨b,off+k,none⟩) (World.block_lt_of_cell? w _ hcell)).trans hcell;have X21:=Za (hrow.below HBw.out (nlr _));have hlt':(k:Int)<(d.known.length:Int):=by omega
  have HTK:Hid (d.known.take (k+1)=d.known.take k++[x]):=by unfold Hid;rw[List.take_add_one,hx];rfl
  clear hcell hrow hx
  go_wp2_with fail
  refine(Od _ x _ X21.out (by omega)).mono ?_;rintro e w22 ⟨v22,rfl,ho22,hb22⟩;obtain⟨x22,y22,rfl,-⟩:=ho22.row;have hsz20:=X20.lt;have X22:=X20.below hb22 (nlr _)
  have hgk:(qs.map (·.2)++List.replicate (d.known.length - k) (Value.slice none 0 0))[k]? =some (.slice none 0 0):=by
   rw[List.getElem?_append_right (by simp;omega),List.getElem?_replicate]
   simp
   omega
  have c1:=X22.get k hgk;have f1:=X22.free k;have XS:=Za (X22.set k (.slice x22 x.length y22))
  have hset:(qs.map (·.2)++List.replicate (d.known.length - k) (Value.slice none 0 0)).set k (.slice x22 x.length y22)=(qs++[(x,Value.slice x22 x.length y22)]).map (·.2)++List.replicate (d.known.length - (k+1)) (.slice none 0 0):=by
   rw[List.set_append_right _ _ (by simp;omega)];obtain⟨m,hm⟩:∃m,d.known.length - k=m+1:=⟨d.known.length - k - 1,by omega⟩;rw[hm,show d.known.length - (k+1)=m by omega,List.map_append,List.append_assoc]
   congr 1
   simp[hqk,List.replicate_succ]
  rw[hset]at XS
  have OS:=Za (fun q (hq:q ∈ qs++[(x,Value.slice x22 x.length y22)])=>(show Own (w22.setCell ⟨w6.heap.size,k,none⟩ (.slice x22 x.length y22)) (w.heap.size+1+1) q.2 q.1 from by
   rcases List.mem_append.1 hq with hq|hq
   ·exact((O20.out q hq).below hb22 (nlr _)).setT X22 (by decide) k _
   simp only[List.mem_singleton]at hq;subst hq
   exact(ho22.mono (by have:=hR6.out;omega)).setT X22 (by decide) k _))
  have HB23:=Za ((Zb HB20.out hb22).setCell (p:=⟨w6.heap.size,k,none⟩) (by show W7.heap.size≤w6.heap.size;rw[hw67.out];exact nlr _) (.slice x22 x.length y22));have HPS:Hid ((qs++[(x,Value.slice x22 x.length y22)]).map (·.1)=d.known.take (k+1)):=by unfold Hid;rw[HTK.out,List.map_append,HP.out];rfl
  clear ho22 hb22 X22 hgk hset hc1 HP X20 O20
  go_wp2_with fail
  go_roundw
  case rel=>exact⟨k+1,_,by omega,by go_num,HPS,XS,OS,HB23⟩
  case measure=>simp[intOf];omega
 have hkl2:d.known.take k=d.known:=List.take_of_length_le (by omega);have hm:d.known.length - k=0:=by omega
 rw[hkl2]at HP;rw[hm,List.replicate_zero,List.append_nil]at X20;have hlt':¬(k:Int)<(d.known.length:Int):=by omega
 have hql:qs.length=d.known.length:=by omega
 have KN:Hid (Uf w20 (w.heap.size+1+1) (.slice (some ⟨w6.heap.size,0,none⟩) d.known.length d.known.length) d.known):=⟨qs,⟨by rw[hql];exact ownsRow_blockK X20.out hR6.out (by simp[hql]) (by unfold maxLen;omega),O20.out⟩,HP.out⟩;have hbl:=hw67.out;have hR6':=hR6.out;have G20:=G7.below HB20.out (nlr _);have R20:=R7.below HB20.out (nlr _);have ST20:=ST7.below HB20.out (nlr _);have B20:=B7.below HB20.out (nlr _);have U20:=U7.below HB20.out (nlr _);obtain⟨g0,g1,g2,g3,g4,g5,g6⟩:=G20.c7;have f6:=G20.free 6;obtain⟨r0,r1,r2,r3,r4,r5,r6⟩:=R20.c7;have e0:=R20.free 0;have e1:=R20.free 1;have e2:=R20.free 2;have e3:=R20.free 3;have e4:=R20.free 4;have e5:=R20.free 5;have e6:=R20.free 6;clear HP X20 O20
 go_wp2_with fail
 have hR:=(((((((R20.away (g':=w.heap.size) (i:=6) (v:=.slice (some ⟨w6.heap.size,0,none⟩) d.known.length d.known.length) (by omega)).set 0 (.int .i64 d.self)).set 1 (.slice x1 d.st.clock.length y1)).set 2 (.slice x2 d.st.lives.length y2)).set 3 (.slice x3 d.st.tals.length y3)).set 4 (.slice x4 d.base.length y4)).set 5 (.slice x5 d.log.length y5)).set 6 (.slice (some ⟨w6.heap.size,0,none⟩) d.known.length d.known.length);have hV:=((((((((show Yo w20 (w.heap.size+1+1) (.agg #[.int .i64 d.self,.slice x1 d.st.clock.length y1,.slice x2 d.st.lives.length y2,.slice x3 d.st.tals.length y3,.slice x4 d.base.length y4,.slice x5 d.log.length y5,.slice (some ⟨w6.heap.size,0,none⟩) d.known.length d.known.length]) d from⟨_,_,_,_,_,_,rfl,ST20,B20,U20,KN.out⟩).away (g:=w.heap.size) (by omega) 6 (.slice (some ⟨w6.heap.size,0,none⟩) d.known.length d.known.length)).away (g:=w.heap.size+1) (by omega) 0 (.int .i64 d.self)).away (g:=w.heap.size+1) (by omega) 1 (.slice x1 d.st.clock.length y1)).away (g:=w.heap.size+1) (by omega) 2 (.slice x2 d.st.lives.length y2)).away (g:=w.heap.size+1) (by omega) 3 (.slice x3 d.st.tals.length y3)).away (g:=w.heap.size+1) (by omega) 4 (.slice x4 d.base.length y4)).away (g:=w.heap.size+1) (by omega) 5 (.slice x5 d.log.length y5)).away (g:=w.heap.size+1) (by omega) 6 (.slice (some ⟨w6.heap.size,0,none⟩) d.known.length d.known.length);refine bodyPost_ret (results_cell_row rfl _ _ (w.heap.size+1) 31 _ (0,0) _ rfl hR Tryz.underlying31 rfl Tryz.sizeNode) rfl ⟨_,rfl,hV,?_⟩
 exact(((((((HBw.setCell (by show w.heap.size≤w.heap.size;exact nlr _) _).setCell (by show w.heap.size≤w.heap.size+1;omega) _).setCell (by show w.heap.size≤w.heap.size+1;omega) _).setCell (by show w.heap.size≤w.heap.size+1;omega) _).setCell (by show w.heap.size≤w.heap.size+1;omega) _).setCell (by show w.heap.size≤w.heap.size+1;omega) _).setCell (by show w.heap.size≤w.heap.size+1;omega) _).setCell (by show w.heap.size≤w.heap.size+1;omega) _
end Go.Proofs.YtfhecilhcofboaaGreat
/- A node in a variable, and what each store makes of it. -/
namespace Go.Proofs.YtfhecilhcofboaaGreat
open Go.RowKit

def NdV(w:World)(B g:Nat)(d:NdS):Prop:=
 ∃cv lv tv bv uv kv,Box w g [.int .i64 d.self,cv,lv,tv,bv,uv,kv] 31∧B≤g∧Yl w B (.agg #[cv,lv,tv]) d.st∧Own w B bv d.base∧Xx w B uv d.log∧Uf w B kv d.known
theorem NdV.below{w w':World}{B g C:Nat}{d:NdS}(h:NdV w B g d)(hb:Below C w w')(hC:w.heap.size≤C):NdV w' B g d:=by
 obtain⟨cv,lv,tv,bv,uv,kv,h0,hg,h1,h2,h3,h4⟩:=h;exact⟨cv,lv,tv,bv,uv,kv,h0.below hb hC,hg,h1.below hb hC,h2.below hb hC,h3.below hb hC,h4.below hb hC⟩
theorem NdV.lt{w:World}{B g:Nat}{d:NdS}(h:NdV w B g d):g<w.heap.size∧B≤g:=by
 obtain⟨cv,lv,tv,bv,uv,kv,h0,hg,-⟩:=h;exact⟨h0.lt,hg⟩
theorem NdV.form{w:World}{B g:Nat}{d:NdS}(h:NdV w B g d):∃a1 c1 a2 c2 a3 c3 a4 c4 a5 c5 a6 c6,Box w g [.int .i64 d.self,.slice a1 d.st.clock.length c1,.slice a2 d.st.lives.length c2,.slice a3 d.st.tals.length c3,.slice a4 d.base.length c4,.slice a5 d.log.length c5,.slice a6 d.known.length c6] 31∧
  Yl w B (.agg #[.slice a1 d.st.clock.length c1,.slice a2 d.st.lives.length c2,.slice a3 d.st.tals.length c3]) d.st∧Own w B (.slice a1 d.st.clock.length c1) d.st.clock∧Own w B (.slice a4 d.base.length c4) d.base∧Xx w B (.slice a5 d.log.length c5) d.log∧Uf w B (.slice a6 d.known.length c6) d.known:=by
 obtain⟨cv,lv,tv,bv,uv,kv,h0,hg,h1,h2,h3,h4⟩:=h;obtain⟨a1,c1,a2,c2,a3,c3,he⟩:=h1.formW;simp only[Value.agg.injEq,Array.mk.injEq,List.cons.injEq,and_true]at he;obtain⟨rfl,rfl,rfl⟩:=he;obtain⟨a4,c4,rfl,-⟩:=h2.row;obtain⟨a5,c5,rfl⟩:=h3.form;obtain⟨a6,c6,rfl⟩:=h4.form;have h1':=h1;obtain⟨cv',lv',tv',he,hc,-,-⟩:=h1';simp only[Value.agg.injEq,Array.mk.injEq,List.cons.injEq,and_true]at he;obtain⟨rfl,rfl,rfl⟩:=he;exact⟨a1,c1,a2,c2,a3,c3,a4,c4,a5,c5,a6,c6,h0,h1,hc,h2,h3,h4⟩
theorem NdV.value{w:World}{B g:Nat}{d:NdS}{x0 x1 x2 x3 x4 x5 x6:Value}(h:NdV w B g d)(hb:Box w g [x0,x1,x2,x3,x4,x5,x6] 31):Yo w B (.agg #[x0,x1,x2,x3,x4,x5,x6]) d:=by
 obtain⟨cv,lv,tv,bv,uv,kv,h0,hg,h1,h2,h3,h4⟩:=h;unfold Box at h0 hb;rw[h0]at hb;simp only[Option.some.injEq,Obj.cells.injEq,Array.mk.injEq,List.cons.injEq,and_true]at hb;obtain⟨rfl,rfl,rfl,rfl,rfl,rfl,rfl⟩:=hb;exact⟨_,_,_,_,_,_,rfl,h1,h2,h3,h4⟩
theorem NdV.new{w:World}{B:Nat}{d:NdS}{x0 x1 x2 x3 x4 x5 x6:Value}(h:Yo w B (.agg #[x0,x1,x2,x3,x4,x5,x6]) d)(hB:B≤w.heap.size):NdV (w.alloc (.cells #[x0,x1,x2,x3,x4,x5,x6] 31)) B w.heap.size d:=by
 have h':=h.below (bpl w (.cells #[x0,x1,x2,x3,x4,x5,x6] 31)) (nlr _);obtain⟨cv,lv,tv,bv,uv,kv,h0,h1,h2,h3,h4⟩:=h';simp only[Value.agg.injEq,Array.mk.injEq,List.cons.injEq,and_true]at h0;obtain⟨rfl,rfl,rfl,rfl,rfl,rfl,rfl⟩:=h0;exact⟨_,_,_,_,_,_,Box.new w [_,_,_,_,_,_,_] _,hB,h1,h2,h3,h4⟩
theorem NdV.setSt{w:World}{B g:Nat}{d:NdS}{c l t:Value}{s:StS}(h:NdV w B g d)(hs:Yl w B (.agg #[c,l,t]) s):NdV (((w.setCell ⟨g,1,none⟩ c).setCell ⟨g,2,none⟩ l).setCell ⟨g,3,none⟩ t) B g ⟨d.self,s,d.base,d.log,d.known⟩:=by
 obtain⟨cv,lv,tv,bv,uv,kv,h0,hg,h1,h2,h3,h4⟩:=h;have k1:=h0.set 1 c;have k2:=k1.set 2 l;exact⟨_,_,_,_,_,_,k2.set 3 t,hg,((hs.setT h0 (by decide) (by decide) (by decide) 1 c).setT k1 (by decide) (by decide) (by decide) 2 l).setT k2 (by decide) (by decide) (by decide) 3 t,((h2.setT h0 (by decide) 1 c).setT k1 (by decide) 2 l).setT k2 (by decide) 3 t,((h3.setT h0 (by decide) (by decide) 1 c).setT k1 (by decide) (by decide) 2 l).setT k2 (by decide) (by decide) 3 t,((h4.setT h0 (by decide) (by decide) 1 c).setT k1 (by decide) (by decide) 2 l).setT k2 (by decide) (by decide) 3 t⟩
theorem NdV.setBase{w:World}{B g:Nat}{d:NdS}{b:Value}{xs:List Int}(h:NdV w B g d)(hs:Own w B b xs):NdV (w.setCell ⟨g,4,none⟩ b) B g ⟨d.self,d.st,xs,d.log,d.known⟩:=by
 obtain⟨cv,lv,tv,bv,uv,kv,h0,hg,h1,h2,h3,h4⟩:=h;exact⟨_,_,_,_,_,_,h0.set 4 b,hg,h1.setT h0 (by decide) (by decide) (by decide) 4 b,hs.setT h0 (by decide) 4 b,h3.setT h0 (by decide) (by decide) 4 b,h4.setT h0 (by decide) (by decide) 4 b⟩
theorem NdV.setLog{w:World}{B g:Nat}{d:NdS}{b:Value}{l:List Upd}(h:NdV w B g d)(hs:Xx w B b l):NdV (w.setCell ⟨g,5,none⟩ b) B g ⟨d.self,d.st,d.base,l,d.known⟩:=by
 obtain⟨cv,lv,tv,bv,uv,kv,h0,hg,h1,h2,h3,h4⟩:=h;exact⟨_,_,_,_,_,_,h0.set 5 b,hg,h1.setT h0 (by decide) (by decide) (by decide) 5 b,h2.setT h0 (by decide) 5 b,hs.setT h0 (by decide) (by decide) 5 b,h4.setT h0 (by decide) (by decide) 5 b⟩
theorem NdV.append{w w':World}{B g:Nat}{d:NdS}{x0 x1 x2 x3 x4 x5 x6 v' sv:Value}{u:Upd}{ps:List (Upd×Value)}(h:NdV w B g d)(hb:Box w g [x0,x1,x2,x3,x4,x5,x6] 31)(hl:zX w B x5 ps)(hp:ps.map (·.1)=d.log)(hs:Own w B sv u.seen)(ho:w'.ownsRow B 33 5 v' (ps.length+1) (Um ps++Yn u sv))(hgr:w.grownBy w' x5.ownBlock):NdV (w'.setCell ⟨g,5,none⟩ v') B g ⟨d.self,d.st,d.base,d.log++[u],d.known⟩:=by
 have hn:=h.value hb;obtain⟨-,hg⟩:=h.lt;have h0:=hb.grownT hl.1 hgr (by decide);obtain⟨cv,lv,tv,bv,uv,kv,he,h1,h2,h3,h4⟩:=hn;simp only[Value.agg.injEq,Array.mk.injEq,List.cons.injEq,and_true]at he;obtain⟨rfl,rfl,rfl,rfl,rfl,rfl,rfl⟩:=he;have hm:=zX.more hl hs ho hgr;have hb':Box w' g [.int .i64 d.self,x1,x2,x3,x4,x5,x6] 31:=h0;obtain⟨cv',lv',tv',he,k1,k2,k3⟩:=h1;have hS:Yl w' B (.agg #[x1,x2,x3]) d.st:=⟨_,_,_,he,Xt k1 hl.1 hgr (by decide),Xt k2 hl.1 hgr (by decide),Xt k3 hl.1 hgr (by decide)⟩;obtain⟨qs,q1,q2⟩:=h4;have hK:Uf w' B x6 d.known:=⟨qs,⟨Xt q1.1 hl.1 hgr (by decide),fun q hq=>Xt (q1.2 q hq) hl.1 hgr (by decide)⟩,q2⟩;have hB:Own w' B x4 d.base:=Xt h2 hl.1 hgr (by decide);have hL:Xx w' B v' (d.log++[u]):=⟨_,hm,by rw[List.map_append,hp];rfl⟩;exact⟨_,_,_,_,_,_,hb'.set 5 v',hg,hS.setT hb' (by decide) (by decide) (by decide) 5 v',hB.setT hb' (by decide) 5 v',hL.setT hb' (by decide) (by decide) 5 v',hK.setT hb' (by decide) (by decide) 5 v'⟩
theorem Ok{w:World}{B C g:Nat}{e f:TypeId}{s1 s2 n1 n2:Nat}{v u:Value}{xs ys:List Value}(h:w.ownsRow B e s1 v n1 xs)(hr:w.ownsRow C f s2 u n2 ys)(hu:u.ownBlock=some g)(hte:f≠e)(i:Nat)(x:Value):(w.setCell ⟨g,i,none⟩ x).ownsRow B e s1 v n1 xs:=by
 refine row_set h (fun he=>?_) i x
 rcases h.2 with⟨rfl,-⟩|⟨g1,cap,cur,rfl,-,hh,-⟩
 ·simp[Value.ownBlock]at he
 rcases hr.2 with⟨rfl,-⟩|⟨g2,cap',cur',rfl,-,hh',-⟩
 ·simp[Value.ownBlock]at hu
 simp only[Value.ownBlock,Option.some.injEq]at he hu;subst he;subst hu;rw[hh]at hh';simp only[Option.some.injEq,Obj.cells.injEq]at hh';exact hte hh'.2.1.symm
theorem KnO.get{w:World}{B gk n c:Nat}{qs:List (List Int×Value)}(h:KnO w B (.slice (some ⟨gk,0,none⟩) n c) qs){k:Nat}(hk:k<qs.length):∃v,w.cell? ⟨gk,k,none⟩=some v∧w.frozen? ⟨gk,k,none⟩=false:=by
 rcases h.1.2 with⟨h0,-⟩|⟨g,cap,cur,h0,hg,hh,h1,h2,h3,h4⟩
 ·simp at h0
 simp only[Value.slice.injEq,Option.some.injEq,Addr.mk.injEq,and_true]at h0;obtain⟨rfl,-,-⟩:=h0;refine⟨cur[k]'(by omega),?_,?_⟩
 ·simp[World.cell?,hh]
 simp[World.frozen?,hh]
theorem Uf.put{w:World}{B gk n c k:Nat}{ks:List (List Int)}{cv:Value}{x:List Int}(h:Uf w B (.slice (some ⟨gk,0,none⟩) n c) ks)(hk:k<ks.length)(hx:Own w B cv x):Uf (w.setCell ⟨gk,k,none⟩ cv) B (.slice (some ⟨gk,0,none⟩) n c) (ks.set k x):=by
 obtain⟨qs,⟨h1,h2⟩,rfl⟩:=h;rw[List.length_map]at hk;refine⟨qs.set k (x,cv),⟨?_,fun q hq=>?_⟩,by rw[List.map_set]⟩
 ·have h1':=h1
  rcases h1.2 with⟨h0,-⟩|⟨g,cap,cur,h0,hg,hh,e1,e2,e3,e4⟩
  ·simp at h0
  simp only[Value.slice.injEq,Option.some.injEq,Addr.mk.injEq,and_true]at h0;obtain⟨rfl,rfl,rfl⟩:=h0;refine⟨by simp,.inr ⟨gk,c,cur.setIfInBounds k cv,by simp,hg,heap_setCell_same w gk k cur _ cv hh,by simpa using e1,e2,by simpa using e3,?_⟩⟩;rw[List.map_set,Array.toList_setIfInBounds,List.length_set,Nat.mul_one,List.take_set,←Nat.mul_one qs.length,e4]
 rcases List.mem_or_eq_of_mem_set hq with hq|hq
 ·exact Ok (h2 q hq) h1 rfl (by decide) k cv
 subst hq;exact Ok hx h1 rfl (by decide) k cv
theorem NdV.setKn{w:World}{B g gk n c k:Nat}{d:NdS}{x0 x1 x2 x3 x4 x5 cv:Value}{x:List Int}(h:NdV w B g d)(hb:Box w g [x0,x1,x2,x3,x4,x5,.slice (some ⟨gk,0,none⟩) n c] 31)(hk:k<d.known.length)(hx:Own w B cv x):NdV (w.setCell ⟨gk,k,none⟩ cv) B g ⟨d.self,d.st,d.base,d.log,d.known.set k x⟩:=by
 have hn:=h.value hb;obtain⟨-,hg⟩:=h.lt;obtain⟨cv',lv,tv,bv,uv,kv,he,h1,h2,h3,h4⟩:=hn;simp only[Value.agg.injEq,Array.mk.injEq,List.cons.injEq,and_true]at he;obtain⟨rfl,rfl,rfl,rfl,rfl,rfl,rfl⟩:=he;have h4':=h4;obtain⟨qs,⟨q1,-⟩,-⟩:=h4;obtain⟨cv2,lv2,tv2,he,k1,k2,k3⟩:=h1;obtain⟨ps,⟨p1,p2⟩,p3⟩:=h3
 have hne:g≠gk:=by
  intro e;subst e;exact Uv q1 hb (by decide) rfl
 exact⟨_,_,_,_,_,_,hb.away hne,hg,⟨_,_,_,he,Ok k1 q1 rfl (by decide) k cv,Ok k2 q1 rfl (by decide) k cv,Ok k3 q1 rfl (by decide) k cv⟩,Ok h2 q1 rfl (by decide) k cv,⟨ps,⟨Ok p1 q1 rfl (by decide) k cv,fun p hp=>Ok (p2 p hp) q1 rfl (by decide) k cv⟩,p3⟩,h4'.put hk hx⟩
theorem Uf.block{w:World}{B:Nat}{a:Option Addr}{n c:Nat}{ks:List (List Int)}(h:Uf w B (.slice a n c) ks)(hk:0<ks.length):∃gk,a=some ⟨gk,0,none⟩∧n=ks.length∧B≤gk∧gk<w.heap.size∧∀k,k<ks.length→∃v,w.cell? ⟨gk,k,none⟩=some v∧w.frozen? ⟨gk,k,none⟩=false:=by
 obtain⟨qs,h1,rfl⟩:=h;rw[List.length_map]at hk ⊢;have h1':=h1
 rcases h1.1.2 with⟨h0,h00⟩|⟨g,cap,cur,h0,hg,hh,-⟩
 ·omega
 simp only[Value.slice.injEq]at h0;obtain⟨rfl,rfl,rfl⟩:=h0;exact⟨g,rfl,rfl,hg,lt_of_block hh,fun k hk=>h1'.get hk⟩
end Go.Proofs.YtfhecilhcofboaaGreat
