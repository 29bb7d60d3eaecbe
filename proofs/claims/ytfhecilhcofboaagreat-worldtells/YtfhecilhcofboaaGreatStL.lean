/- state.Play: updates, one behind the other. state.Apply and state.Start. -/
import Derived.Test.YtfhecilhcofboaaGreatStH
import Derived.Test.YtfhecilhcofboaaGreatStI
import Derived.Test.YtfhecilhcofboaaGreatStF
namespace Go.Proofs.YtfhecilhcofboaaGreat
open Go.RowKit

theorem Xz{P:Program}{fn:Func}{p q:Tmp}{ty ty2:TypeId}(h:fn.results=#[.cell p ty,.cell q ty2])(tmps:Array Value)(w:World)(g g2:Nat)(t t2:TypeId)(cs cs2:Array Value)(fr fr2:Nat×Nat)(d d2:TypeDesc)
  (hp:tmps.getD p undef=.pointer (some ⟨g,0,none⟩)) (hg:w.heap[g]? =some (.cells cs t fr))
  (hu:P.underlying ty=some d) (hd:(match d with| .struct _| .array _ _=>true|_=>false)=true) (hi:(P.info? ty).map (·.size)=some cs.size)
  (hp2:tmps.getD q undef=.pointer (some ⟨g2,0,none⟩)) (hg2:w.heap[g2]? =some (.cells cs2 t2 fr2))
  (hu2:P.underlying ty2=some d2) (hd2:(match d2 with| .struct _| .array _ _=>true|_=>false)=true) (hi2:(P.info? ty2).map (·.size)=some cs2.size):
  (results fn tmps).run P w=.ok (.tuple #[.agg cs,.agg cs2]) w:=by
 have hp':tmps[p]?.getD undef=.pointer (some ⟨g,0,none⟩):=by simpa using hp
 have hp2':tmps[q]?.getD undef=.pointer (some ⟨g2,0,none⟩):=by simpa using hp2
 simp[results,h,hp',hp2',asAddr,run_loadVar_row w g t ty cs fr d hg hu hd hi,run_loadVar_row w g2 t2 ty2 cs2 fr2 d2 hg2 hu2 hd2 hi2]
theorem Zc{P:Program}{fn:Func}{p q:Tmp}{ty:TypeId}(h:fn.results=#[.cell p ty,.tmp q])(tmps:Array Value)(w:World)(g:Nat)(t:TypeId)(cs:Array Value)(fr:Nat×Nat)(d:TypeDesc)
  (hp:tmps.getD p undef=.pointer (some ⟨g,0,none⟩)) (hg:w.heap[g]? =some (.cells cs t fr))
  (hu:P.underlying ty=some d) (hd:(match d with| .struct _| .array _ _=>true|_=>false)=true) (hi:(P.info? ty).map (·.size)=some cs.size):
  (results fn tmps).run P w=.ok (.tuple #[.agg cs,tmps.getD q undef]) w:=by
 have hp':tmps[p]?.getD undef=.pointer (some ⟨g,0,none⟩):=by simpa using hp
 simp[results,h,hp',asAddr,run_loadVar_row w g t ty cs fr d hg hu hd hi]
theorem Box.drew{w:World}{g:Nat}{cs:List Value}{t:TypeId}(h:Box w g cs t):Box w.drew g cs t:=h
theorem Tryz.sizeState:(Tryz.prog.info? 27).map (·.size)=some 3:=by kernel_rfl

def Yl(w:World)(B:Nat)(v:Value)(s:StS):Prop:=
 ∃cv lv tv,v=.agg #[cv,lv,tv]∧Own w B cv s.clock∧w.ownsRow B 106 5 lv s.lives.length (cellsS Zv s.lives)∧w.ownsRow B 108 3 tv s.tals.length (cellsS Yb s.tals)
theorem Yl.st{w:World}{B:Nat}{v:Value}{s:StS}(h:Yl w B v s):Jp w v s:=by
 obtain⟨cv,lv,tv,h1,h2,h3,h4⟩:=h;exact⟨cv,lv,tv,h1,h2.row,Zl Ze h3,Zl Zg h4⟩
theorem Zw{w:World}{B C:Nat}{e:TypeId}{sz n:Nat}{v:Value}{xs:List Value}(h:w.ownsRow B e sz v n xs)(hB:C≤B):w.ownsRow C e sz v n xs:=by
 refine⟨h.1,?_⟩
 rcases h.2 with h1|⟨g,cap,cur,hv,hg,r⟩
 ·exact Or.inl h1
 exact Or.inr ⟨g,cap,cur,hv,Nat.le_trans hB hg,r⟩
theorem Yl.base{w:World}{B C:Nat}{v:Value}{s:StS}(h:Yl w B v s)(hB:C≤B):Yl w C v s:=by
 obtain⟨cv,lv,tv,h1,h2,h3,h4⟩:=h;exact⟨cv,lv,tv,h1,h2.mono hB,Zw h3 hB,Zw h4 hB⟩
theorem Yl.below{w w':World}{B C:Nat}{v:Value}{s:StS}(h:Yl w B v s)(hb:Below C w w')(hC:w.heap.size≤C):Yl w' B v s:=by
 obtain⟨cv,lv,tv,h1,h2,h3,h4⟩:=h;exact⟨cv,lv,tv,h1,h2.below hb hC,Zp h3 hb hC,Zp h4 hb hC⟩
theorem Yl.away{w:World}{B:Nat}{v:Value}{s:StS}(h:Yl w B v s){g:Nat}(hg:g<B)(i:Nat)(x:Value):Yl (w.setCell ⟨g,i,none⟩ x) B v s:=by
 obtain⟨cv,lv,tv,h1,h2,h3,h4⟩:=h;exact⟨cv,lv,tv,h1,h2.away hg i x,ownsRow_setCell_below h3 hg x,ownsRow_setCell_below h4 hg x⟩
theorem Yl.none(w:World)(B:Nat):Yl w B (.agg #[.slice none 0 0,.slice none 0 0,.slice none 0 0]) ⟨[],[],[]⟩:=⟨_,_,_,rfl,Jm _ _,World.ownsRow_nil _ _ _ _,World.ownsRow_nil _ _ _ _⟩
theorem Yf.src{α:Type}{sz:Nat}{enc:α→List Value}(he:∀x,(enc x).length=sz)(h1:∀x,∀v ∈ enc x,v.oneCell'=true){P:Program}{w:World}{v:Value}{l:List α}{tx e':TypeId}(h:Yf sz enc w v l)(hk:P.underlying tx=some (.slice e')):Src P sz tx v l.length (cellsS enc l) w:=by
 have h0:=h;obtain⟨a,cap,rfl,-,-,hc⟩:=h
 cases l with
 |nil=>
  cases a with
  |none=>exact Src.ofNil w hk cap
  |some ad=>exact Src.ofSlice w hk ad 0 cap [] (by simp) (fun j u hj=>by simp at hj) (fun u hu=>by simp at hu)
 |cons x r=>
  obtain⟨b,off,rfl,-⟩:=hc 0 x rfl;exact Src.ofSlice w hk ⟨b,off,none⟩ _ cap _ (Zj he _) (h0.cells he) (Oe h1 _)

theorem row_set{w:World}{B g:Nat}{e:TypeId}{sz n:Nat}{v:Value}{xs:List Value}(h:w.ownsRow B e sz v n xs)(hne:v.ownBlock≠some g)(i:Nat)(x:Value):(w.setCell ⟨g,i,none⟩ x).ownsRow B e sz v n xs:=by
 refine⟨h.1,?_⟩
 rcases h.2 with hn|⟨g',cap,cur,rfl,hb,hg,rest⟩
 ·exact .inl hn
 refine .inr ⟨g',cap,cur,rfl,hb,?_,rest⟩;rw[Below.heap_setCell _ _ _ _ (fun he=>hne (by rw[show g'=g from he];rfl))];exact hg
theorem Uv{w:World}{B g:Nat}{e t:TypeId}{sz n:Nat}{v:Value}{xs cs:List Value}(h:w.ownsRow B e sz v n xs)(hb:Box w g cs t)(hte:t≠e):v.ownBlock≠some g:=by
 intro he
 rcases h.2 with⟨rfl,-⟩|⟨g',cap,cur,rfl,-,hh,-⟩
 ·simp[Value.ownBlock]at he
 simp only[Value.ownBlock,Option.some.injEq]at he;subst he;unfold Box at hb;rw[hb]at hh;simp only[Option.some.injEq,Obj.cells.injEq]at hh;exact hte hh.2.1
theorem Yd{w:World}{B g:Nat}{e t:TypeId}{sz n:Nat}{v:Value}{xs cs:List Value}(h:w.ownsRow B e sz v n xs)(hb:Box w g cs t)(hte:t≠e)(i:Nat)(x:Value):(w.setCell ⟨g,i,none⟩ x).ownsRow B e sz v n xs:=row_set h (Uv h hb hte) i x

theorem Xn{P:Program}{ops:Array Oper}{o:Oper}{a:Act}{w:World}{K:Act→World→Prop}{Q:Exit→Act→World→Prop}{E:Prop}
  (hg:o.guard=none) (s x:Operand) (t tx:TypeId) (hop:o.op=Op.call {callee:=Callee.builtin Builtin.append,args:=#[s,x],argTypes:=#[t,tx]})
  (base:Nat) (e:TypeId) (i:TypeInfo) (z:Value) (size bytes:Nat) (h1:P.underlying t=some (.slice e)) (h2:P.info? e=some i) (h3:i.zero=some z) (h4:i.size=size) (h5:i.bytes=bytes) (h6:z.cells.size=size)
  (v:Value) (n:Nat) (xs:List Value) (hs:a.eval s=v) (hown:w.ownsRow base e size v n xs)
  (xv:Value) (hx:a.eval x=xv) (m:Nat) (news:List Value) (hsrc:Src P size tx xv m news w)
  (b1:n+m≤maxLen) (b2:(n+m)*bytes≤140737488355328) (hb:base≤w.heap.size)
  (hK:∀v' w',w'.ownsRow base e size v' (n+m) (xs++news)→w.grownBy w' v.ownBlock→K (a.put o.dst v') w'):
  if Region.wanted o (yielded ops a.tmps)=true then Oper.wp P o a w K Q else E:=by
 have hw:Region.wanted o (yielded ops a.tmps)=true:=by simp[Region.wanted,hg]
 rw[if_pos hw];obtain⟨v',w',hrun,r1,r2,_⟩:=yA (P:=P) w base t tx o.type e i z size bytes h1 h2 h3 h4 h5 h6 v n xs hown xv m news hsrc b1 b2 hb;unfold Oper.wp
 simp[execOp,hop,resolve,invoke,builtin,hs,hx,hrun,Result.andThen]
 exact hK v' w' r1 r2

set_option maxRecDepth 100000 in
set_option maxHeartbeats 2000000 in
theorem copy_state(v:Value)(s:StS)(w:World)(h:Jp w v s)(hf:s.clock.length*8≤140737488351232)(hl:s.lives.length≤400000000)(ht:s.tals.length≤100):
  Calls Tryz.prog 45 #[v] w fun e w'=>∃rv,e=.returned rv∧Yl w' (w.heap.size+2) rv s∧Below w.heap.size w w':=by
 have hin:=h;obtain⟨cv,lv,tv,rfl,hc,hv,ht⟩:=h;obtain⟨a1,cap1,rfl,-,-,-⟩:=id hc;obtain⟨a2,cap2,rfl,-,-,-⟩:=id hv;obtain⟨a3,cap3,rfl,-,-,-⟩:=id ht;have hb3:=Below.plus (bpl w (.cells #[.slice a1 s.clock.length cap1,.slice a2 s.lives.length cap2,.slice a3 s.tals.length cap3] 27)) (.cells #[.slice none 0 0,.slice none 0 0,.slice none 0 0] 27);have C0:=Za (hc.below hb3 (nlr _));have L0:=Za (hv.below hb3 (nlr _));have T0:=Za (ht.below hb3 (nlr _));have G0:=Za ((Box.new w [.slice a1 s.clock.length cap1,.slice a2 s.lives.length cap2,.slice a3 s.tals.length cap3] 27).plus (.cells #[.slice none 0 0,.slice none 0 0,.slice none 0 0] 27));have R0:=Za (Box.new (w.alloc (.cells #[.slice a1 s.clock.length cap1,.slice a2 s.lives.length cap2,.slice a3 s.tals.length cap3] 27)) [.slice none 0 0,.slice none 0 0,.slice none 0 0] 27);rw[World.size_alloc]at R0;have HB0:=Za hb3;clear hin hc hv ht hb3;obtain⟨W1,HW1⟩:∃W1,Hid ((w.alloc (.cells #[.slice a1 s.clock.length cap1,.slice a2 s.lives.length cap2,.slice a3 s.tals.length cap3] 27)).alloc (.cells #[.slice none 0 0,.slice none 0 0,.slice none 0 0] 27)=W1):=⟨_,rfl⟩;rw[HW1.out]at C0 L0 T0 G0 R0 HB0;have hsz:Hid (W1.heap.size=w.heap.size+2):=by unfold Hid;rw[←HW1.out,World.size_alloc,World.size_alloc]
 obtain⟨iL,hiL,hzL0,hzL1,hzL2⟩:=info_parts Tryz.infoLive;obtain⟨iT,hiT,hzT0,hzT1,hzT2⟩:=info_parts Tryz.infoTally;have HK:Hid (∀w',Zh W1 w'→w'.cell? ⟨w.heap.size,0,none⟩=some (.slice a1 s.clock.length cap1)∧w'.cell? ⟨w.heap.size,1,none⟩=some (.slice a2 s.lives.length cap2)∧w'.cell? ⟨w.heap.size,2,none⟩=some (.slice a3 s.tals.length cap3)):=fun w' hg=>⟨(G0.below hg (nlr _)).get 0 rfl,(G0.below hg (nlr _)).get 1 rfl,(G0.below hg (nlr _)).get 2 rfl⟩
 go_enter Tryz.func45,Tryz.ntmps45
 go_upto_region 1 with fail
 rw[HW1.out];refine wp_region_held_drew (S:=fun w'=>w'.cell? ⟨w.heap.size,0,none⟩=some (.slice a1 s.clock.length cap1)∧w'.cell? ⟨w.heap.size,1,none⟩=some (.slice a2 s.lives.length cap2)∧w'.cell? ⟨w.heap.size,2,none⟩=some (.slice a3 s.tals.length cap3)) (by kernel_rfl) (HK.out _ (Zf (Zi _))) (fun hHeld=>?_);refine ty 0 (.pointer (some ⟨w.heap.size,0,none⟩)) ?_;refine ty 1 (.slice a1 s.clock.length cap1) ?_;refine ty 3 (.pointer (some ⟨w.heap.size,1,none⟩)) ?_;refine ty 4 (.slice a2 s.lives.length cap2) ?_;refine ty 6 (.pointer (some ⟨w.heap.size,2,none⟩)) ?_;refine ty 7 (.slice a3 s.tals.length cap3) ?_;refine wr 2 fun K hK=>?_;go_simp;refine(Od _ s.clock _ (C0.below (Zf (Zi W1)) (nlr _)) hf).mono ?_;rintro e w4 ⟨v4,rfl,hc4,hb4⟩;have hgr4:Zh W1 w4:=Zd (Zf (Zi W1)) hb4;obtain⟨x4,y4,hx4,-⟩:=hc4.row;subst hx4;refine hK.out _ _ (HK.out _ hgr4) (fun hHeld2=>?_);clear hK K hHeld hb4
 try simp only[Act.put,Zt,Zs,Zr]
 have HSL:=Za (Yf.src Ze Vo (L0.below hgr4 (nlr _)) (P:=Tryz.prog) Tryz.underlying24);refine wr 5 fun K hK=>?_;refine Xn rfl (.const (.slice none 0 0)) (.tmp 7) 24 24 rfl w4.heap.size 106 iL (.agg #[.bool false,.int .i64 0,.int .i64 0,.int .i64 0,.int .i64 0]) 5 40 Tryz.underlying24 hiL hzL0 hzL1 hzL2 rfl (.slice none 0 0) 0 [] rfl (World.ownsRow_nil w4 w4.heap.size 106 5) _ rfl s.lives.length (cellsS Zv s.lives) HSL.out (by unfold maxLen;omega) (by omega) (nlr _) ?_;intro v5 w5 hc5 hg5;have hb5:Below w4.heap.size w4 w5:=(Below.refl w4.heap.size w4).grown hg5 (nlr _) (fun k hk=>by simp[Value.ownBlock]at hk);have hgr5:Zh W1 w5:=Zd hgr4 hb5;have hc4':=hc4.below hb5 (nlr _);rw[Nat.zero_add,List.nil_append]at hc5;obtain⟨x5,y5,hx5,-⟩:=Zl Ze hc5;subst hx5;refine hK.out _ _ (HK.out _ hgr5) (fun hHeld3=>?_);clear hK K hHeld2 hb5 hc4 hg5 HSL
 try simp only[Act.put,Zt]
 have HST:=Za (Yf.src Zg Jc (T0.below hgr5 (nlr _)) (P:=Tryz.prog) Tryz.underlying25);refine wr 8 fun K hK=>?_;refine Xn rfl (.const (.slice none 0 0)) (.tmp 10) 25 25 rfl w5.heap.size 108 iT (.agg #[.int .i64 0,.int .i64 0,.int .i64 0]) 3 24 Tryz.underlying25 hiT hzT0 hzT1 hzT2 rfl (.slice none 0 0) 0 [] rfl (World.ownsRow_nil w5 w5.heap.size 108 3) _ rfl s.tals.length (cellsS Yb s.tals) HST.out (by unfold maxLen;omega) (by omega) (nlr _) ?_;intro v6 w6 hc6 hg6;have hb6:Below w5.heap.size w5 w6:=(Below.refl w5.heap.size w5).grown hg6 (nlr _) (fun k hk=>by simp[Value.ownBlock]at hk);have hgr6:Zh W1 w6:=Zd hgr5 hb6;have hc4'':=hc4'.below hb6 (nlr _);have hc5':=Zp hc5 hb6 (nlr _);rw[Nat.zero_add,List.nil_append]at hc6;obtain⟨x6,y6,hx6,-⟩:=Zl Zg hc6;subst hx6;refine hK.out _ _ (HK.out _ hgr6) (fun hHeld4=>?_);clear hK K hHeld3 hb6 hc4' hc5 hg6 HST
 try simp only[Act.put]
 refine ty 9 (.agg #[.slice x4 s.clock.length y4,.slice x5 s.lives.length y5,.slice x6 s.tals.length y6]) ?_;have R6:=Za (R0.below hgr6 (nlr _))
 have HV:Hid (Yl w6 (w.heap.size+2) (.agg #[.slice x4 s.clock.length y4,.slice x5 s.lives.length y5,.slice x6 s.tals.length y6]) s):=by
  have h1:=hsz.out;have h4:=hgr4.size;have h5:=hgr5.size;exact⟨_,_,_,rfl,hc4''.mono (by show w.heap.size+2≤W1.heap.size;omega),Zw hc5' (by omega),Zw hc6 (by omega)⟩
 have HB6:=Za (HB0.trans (hgr6.mono HB0.size));clear hc4'' hc5' hc6;obtain⟨c0,c1,c2⟩:=R6.c3;have f0:=R6.free 0;have f1:=R6.free 1;have f2:=R6.free 2;refine wr 10 fun K hK=>?_;go_simp;have hRs:=((R6.set 0 (.slice x4 s.clock.length y4)).set 1 (.slice x5 s.lives.length y5)).set 2 (.slice x6 s.tals.length y6);have hGs:=(((G0.below hgr6 (nlr _)).away (g':=w.heap.size+1) (i:=0) (v:=.slice x4 s.clock.length y4) (by omega)).away (g':=w.heap.size+1) (i:=1) (v:=.slice x5 s.lives.length y5) (by omega)).away (g':=w.heap.size+1) (i:=2) (v:=.slice x6 s.tals.length y6) (by omega);have hVs:=((HV.away (g:=w.heap.size+1) (by omega) 0 (.slice x4 s.clock.length y4)).away (g:=w.heap.size+1) (by omega) 1 (.slice x5 s.lives.length y5)).away (g:=w.heap.size+1) (by omega) 2 (.slice x6 s.tals.length y6);refine hK.out _ _ ⟨hGs.get 0 rfl,hGs.get 1 rfl,hGs.get 2 rfl⟩ (fun hHeld5=>?_);clear hK K hHeld4
 try simp only[Act.put,Zt,Zs,Zr]
 clear c0 c1 c2 f0 f1 f2;refine wpAnyH_done (by kernel_rfl) ?_ _
 go_wp2_with fail
 refine bodyPost_ret (results_cell_row rfl _ _ (w.heap.size+1) 27 _ (0,0) _ rfl hRs Tryz.underlying27 rfl Tryz.sizeState) rfl ⟨_,rfl,hVs,?_⟩
 exact((HB6.setCell (by show w.heap.size≤w.heap.size+1;omega) _).setCell (by show w.heap.size≤w.heap.size+1;omega) _).setCell (by show w.heap.size≤w.heap.size+1;omega) _

def Ol(s:StS)(l:List Upd):Int:=if stE s s.clock.length≠0 then stE s s.clock.length else Xb s.clock l s.clock.length
def playA(s:StS)(l:List Upd):Int:=if stE s s.clock.length≠0 then 0 else Vg s.clock l s.clock.length
def yB(s:StS)(l:List Upd):StS:=if Ol s l=0 then⟨Ys s.clock l,playLv s.lives l,playT s.tals l⟩else⟨[],[],[]⟩

set_option maxRecDepth 100000 in
set_option maxHeartbeats 2000000 in
theorem play_state(v ul:Value)(s:StS)(l:List Upd)(w:World)(h:Jp w v s)(hl:Vh w ul l):
  Calls Tryz.prog 112 #[v,ul] w fun e w'=>∃rv,e=.returned (.tuple #[rv,.agg #[.int .i64 (Ol s l),.int .i64 (playA s l)]])∧Yl w' (w.heap.size+3) rv (yB s l)∧Below w.heap.size w w':=by
 have hin:=h;obtain⟨cv,lv,tv,rfl,hc,hv,ht⟩:=h;obtain⟨a1,cap1,rfl,-,-,-⟩:=id hc;obtain⟨a2,cap2,rfl,-,-,-⟩:=id hv;obtain⟨a3,cap3,rfl,-,-,-⟩:=id ht;obtain⟨a4,cap4,rfl,-,-,-⟩:=id hl;have hb3:=Below.plus (Below.plus (bpl w (.cells #[.slice a1 s.clock.length cap1,.slice a2 s.lives.length cap2,.slice a3 s.tals.length cap3] 27)) (.cells #[.slice none 0 0,.slice none 0 0,.slice none 0 0] 27)) (.cells #[.int .i64 0,.int .i64 0] 65);have S0:=Za (hin.below hb3 (nlr _));have C0:=Za (hc.below hb3 (nlr _));have L0:=Za (hv.below hb3 (nlr _));have T0:=Za (ht.below hb3 (nlr _));have U0:=Za (hl.below hb3 (nlr _));have G0:=Za (((Box.new w [.slice a1 s.clock.length cap1,.slice a2 s.lives.length cap2,.slice a3 s.tals.length cap3] 27).plus (.cells #[.slice none 0 0,.slice none 0 0,.slice none 0 0] 27)).plus (.cells #[.int .i64 0,.int .i64 0] 65));have R0:=Za ((Box.new (w.alloc (.cells #[.slice a1 s.clock.length cap1,.slice a2 s.lives.length cap2,.slice a3 s.tals.length cap3] 27)) [.slice none 0 0,.slice none 0 0,.slice none 0 0] 27).plus (.cells #[.int .i64 0,.int .i64 0] 65));have Z0:=Za (Box.new ((w.alloc (.cells #[.slice a1 s.clock.length cap1,.slice a2 s.lives.length cap2,.slice a3 s.tals.length cap3] 27)).alloc (.cells #[.slice none 0 0,.slice none 0 0,.slice none 0 0] 27)) [.int .i64 0,.int .i64 0] 65);rw[World.size_alloc]at R0;rw[World.size_alloc,World.size_alloc]at Z0;have HB0:=Za hb3;clear hin hc hv ht hl hb3;obtain⟨E,HE⟩:∃E,Hid (Ol s l=E):=⟨_,rfl⟩;obtain⟨A,HA⟩:∃A,Hid (playA s l=A):=⟨_,rfl⟩;obtain⟨X,HX⟩:∃X,Hid (yB s l=X):=⟨_,rfl⟩;rw[HE.out,HA.out,HX.out];unfold yB at HX;rw[HE.out]at HX;unfold Ol at HE;unfold playA at HA;obtain⟨r,HR⟩:∃r,Hid (stE s s.clock.length=r):=⟨_,rfl⟩;obtain⟨q,HQ⟩:∃q,Hid (stA s s.clock.length=q):=⟨_,rfl⟩;rw[HR.out]at HE HA
 by_cases hr:r=0
 ·subst hr;obtain⟨ce,HCE⟩:∃ce,Hid (Xb s.clock l s.clock.length=ce):=⟨_,rfl⟩;obtain⟨ca,HCA⟩:∃ca,Hid (Vg s.clock l s.clock.length=ca):=⟨_,rfl⟩;obtain⟨cx,HCX⟩:∃cx,Hid (Vf s.clock l s.clock.length=cx):=⟨_,rfl⟩;obtain rfl:ce=E:=by rw[←HE.out,HCE.out];simp
  obtain rfl:ca=A:=by rw[←HA.out,HCA.out];simp
  clear HE HA
  by_cases hce:ce=0
  ·subst hce;rw[if_pos rfl]at HX;have hok:OkS s.clock.length s.clock s.lives s.tals:=Qw.1 HR.out;have HOK:=Za hok;have hwc:=hok.clock
   have herr:Hid (Xf s.clock.length s.clock l=0):=by
    have:=HCE.out;unfold Xb at this;rw[if_neg (by simpa using hwc)]at this
    split at this
    ·cases this
    exact this
   have hca:ca=0:=by
    rw[←HCA.out];unfold Vg;rw[if_neg (by simpa using hwc)]
    split
    ·rfl
    rw[if_pos herr.out]
   subst hca;have hcx:Hid (cx=Ys s.clock l):=by unfold Hid;rw[←HCX.out];unfold Vf;rw[if_pos HCE.out]
   have hfew:=hok.few;have hlen:=U0.len_le;obtain⟨iL,hiL,hzL0,hzL1,hzL2⟩:=info_parts Tryz.infoLive;obtain⟨iT,hiT,hzT0,hzT1,hzT2⟩:=info_parts Tryz.infoTally;clear hok hwc
   go_enter Tryz.func112,Tryz.ntmps112
   obtain⟨cG0,cG1,cG2⟩:=G0.c3
   go_wp2_with fail
   refine(Xg _ s s.clock.length _ S0.out).mono ?_;rintro e w1 ⟨rfl,hb⟩;have HB1:=Za (Zb HB0.out hb);have S1:=Za (S0.below hb (nlr _));have C1:=Za (C0.below hb (nlr _));have L1:=Za (L0.below hb (nlr _));have T1:=Za (T0.below hb (nlr _));have U1:=Za (U0.below hb (nlr _));have G1:=Za (G0.below hb (nlr _));have R1:=Za (R0.below hb (nlr _));have Z1:=Za (Z0.below hb (nlr _));clear HB0 hb S0 C0 L0 T0 U0 G0 R0 Z0;rw[HR.out,HQ.out];clear cG0 cG1 cG2;have HB2:=Za (Zb HB1.out (bpl w1 (.cells #[.int .i64 0,.int .i64 q] 65)));have S2:=Za (S1.below (bpl w1 (.cells #[.int .i64 0,.int .i64 q] 65)) (nlr _));have C2:=Za (C1.below (bpl w1 (.cells #[.int .i64 0,.int .i64 q] 65)) (nlr _));have L2:=Za (L1.below (bpl w1 (.cells #[.int .i64 0,.int .i64 q] 65)) (nlr _));have T2:=Za (T1.below (bpl w1 (.cells #[.int .i64 0,.int .i64 q] 65)) (nlr _));have U2:=Za (U1.below (bpl w1 (.cells #[.int .i64 0,.int .i64 q] 65)) (nlr _));have G2:=Za (G1.below (bpl w1 (.cells #[.int .i64 0,.int .i64 q] 65)) (nlr _));have R2:=Za (R1.below (bpl w1 (.cells #[.int .i64 0,.int .i64 q] 65)) (nlr _));have Z2:=Za (Z1.below (bpl w1 (.cells #[.int .i64 0,.int .i64 q] 65)) (nlr _));have V2:=Za (Box.new w1 [.int .i64 0,.int .i64 q] 65);clear HB1 S1 C1 L1 T1 U1 G1 R1 Z1;obtain⟨cV0,cV1⟩:=V2.c2;obtain⟨cG0,cG1,cG2⟩:=G2.c3;have hz2:=Z2.lt
   go_wp2_with fail
   refine(zF _ _ s.clock l s.clock.length _ C2.out U2.out).mono ?_;rintro e w3 ⟨vQ,rfl,ho,hb⟩;have HB3:=Za (Zb HB2.out hb);have S3:=Za (S2.below hb (nlr _));have C3:=Za (C2.below hb (nlr _));have L3:=Za (L2.below hb (nlr _));have T3:=Za (T2.below hb (nlr _));have U3:=Za (U2.below hb (nlr _));have G3:=Za (G2.below hb (nlr _));have R3:=Za (R2.below hb (nlr _));have Z3:=Za (Z2.below hb (nlr _));have V3:=Za (V2.below hb (nlr _));have Q3:=Za ho;clear HB2 hb S2 C2 L2 T2 U2 G2 R2 Z2 V2;clear ho;rw[HCE.out,HCA.out];rw[HCX.out]at Q3;clear cG0 cG1 cG2;clear cV0 cV1;have hzl:=Z3.lt;have HB4:=Za (Zb HB3.out (bpl w3 (.cells #[.int .i64 0,.int .i64 0] 65)));have S4:=Za (S3.below (bpl w3 (.cells #[.int .i64 0,.int .i64 0] 65)) (nlr _));have C4:=Za (C3.below (bpl w3 (.cells #[.int .i64 0,.int .i64 0] 65)) (nlr _));have L4:=Za (L3.below (bpl w3 (.cells #[.int .i64 0,.int .i64 0] 65)) (nlr _));have T4:=Za (T3.below (bpl w3 (.cells #[.int .i64 0,.int .i64 0] 65)) (nlr _));have U4:=Za (U3.below (bpl w3 (.cells #[.int .i64 0,.int .i64 0] 65)) (nlr _));have G4:=Za (G3.below (bpl w3 (.cells #[.int .i64 0,.int .i64 0] 65)) (nlr _));have R4:=Za (R3.below (bpl w3 (.cells #[.int .i64 0,.int .i64 0] 65)) (nlr _));have Z4:=Za (Z3.below (bpl w3 (.cells #[.int .i64 0,.int .i64 0] 65)) (nlr _));have V4:=Za (V3.below (bpl w3 (.cells #[.int .i64 0,.int .i64 0] 65)) (nlr _));have Q4:=Za (Q3.below (bpl w3 (.cells #[.int .i64 0,.int .i64 0] 65)) (nlr _));have Y4:=Za (Box.new w3 [.int .i64 0,.int .i64 0] 65);clear HB3 S3 C3 L3 T3 U3 G3 R3 Z3 V3 Q3;obtain⟨cY0,cY1⟩:=Y4.c2;obtain⟨cG0,cG1,cG2⟩:=G4.c3;replace Q4:=Za (Own.mono (C:=w.heap.size+3) Q4.out (by omega));clear V4 C4 hz2;obtain⟨WB,HWB⟩:∃WB,Hid (w3.alloc (.cells #[.int .i64 0,.int .i64 0] 65)=WB):=⟨_,rfl⟩;have hszB:Hid (w.heap.size+2<WB.heap.size):=by unfold Hid;rw[←HWB.out,World.size_alloc];omega
   rw[HWB.out]at HB4 S4 L4 T4 U4 R4 Z4 Q4 cG0 cG1 cG2 Y4 cY0 cY1;have hcl:Hid (s.clock.length*8≤140737488351232):=by have:=Zm.1 HOK.clock;unfold Hid;omega
   go_upto_region 8 with fail
   rw[HWB.out]
   go_wp2_with fail
   refine(copy_state _ s WB S4.out hcl.out hfew.1 hfew.2).mono ?_;rintro e w5 ⟨rv,rfl,ho5,hb5⟩;obtain⟨cv,lv,tv,rfl,k1,k2,k3⟩:=ho5;obtain⟨aC,cC,rfl,-⟩:=k1.row;obtain⟨aL,cL,rfl,-⟩:=Zl Ze k2;obtain⟨aT,cT,rfl,-⟩:=Zl Zg k3;have hQf:∃aQ cQ,vQ=.slice aQ cx.length cQ:=by obtain⟨aQ,cQ,h,-⟩:=Q4.row;exact⟨aQ,cQ,h⟩
   obtain⟨aQ,cQ,rfl⟩:=hQf;have hbp:=bpl w5 (.cells #[.slice aQ cx.length cQ,.slice aL s.lives.length cL,.slice aT s.tals.length cT] 27);have XS6:=Za (Box.new w5 [.slice aQ cx.length cQ,.slice aL s.lives.length cL,.slice aT s.tals.length cT] 27);have O6:=Za (Zw (Zp k2 hbp (nlr _)) (C:=WB.heap.size) (by omega));have T6:=Za (Zw (Zp k3 hbp (nlr _)) (C:=WB.heap.size) (by omega));have HB6:=Za (Zb hb5 hbp);have hg6:Hid (WB.heap.size≤w5.heap.size):=hb5.size;clear k1 k2 k3 hb5 hbp hfew cG0 cG1 cG2 cY0 cY1
   go_wp2_with fail
   go_loopw [45] (fun i wr=>∃(k:Nat) (a b:Value),k≤l.length∧i=.int .i64 k∧Hid (Box wr w5.heap.size [.slice aQ cx.length cQ,a,b] 27)∧Hid (wr.ownsRow WB.heap.size 106 5 a (playLv s.lives (l.take k)).length (cellsS Zv (playLv s.lives (l.take k))))∧Hid (wr.ownsRow WB.heap.size 108 3 b (playT s.tals (l.take k)).length (cellsS Yb (playT s.tals (l.take k))))∧Hid (Below WB.heap.size WB wr)) (fun i _=>l.length - (intOf i).toNat)
   case atStart=>exact⟨0,_,_,Nat.zero_le _,rfl,XS6,O6,T6,HB6⟩
   clear O6 T6 HB6 XS6;obtain⟨k,va,vb,hk,rfl,X7,O7,T7,HB7⟩:=hrel;obtain⟨w7,rfl⟩:∃w7,w7=wr:=⟨wr,rfl⟩;obtain⟨aL2,cL2,hva,-⟩:=Zl Ze O7.out;obtain⟨aT2,cT2,hvb,-⟩:=Zl Zg T7.out;subst hva hvb
   by_cases hlt:k<l.length
   ·obtain⟨u,hu⟩:∃u,l[k]? =some u:=⟨_,List.getElem?_eq_getElem hlt⟩;have hsp:=split_at hu;have he1:Xf s.clock.length s.clock (l.take k++u::l.drop (k+1))=0:=by rw[←hsp];exact herr.out
    obtain⟨hep,heq⟩:=errL_split he1;obtain⟨hwu,-⟩:=Vc heq;have HOk:=Za (OkS.play (l.take k) HOK.out hep);have hwr:=((Jo HOk.clock).1 hwu).1;have HFit:=Za (xY hwr);have HWU:=Za (wrongU_full hwr);have HFR:=Za (HOk.fresh hwu);have hfew:=HOk.few;have hitem:-1000≤u.item∧u.item≤1000:=by have:=HWU.out;omega
    have HIT:=Za hitem;have HTK:Hid (l.take (k+1)=l.take k++[u]):=take_one hu;clear hsp he1 hep heq hwu hwr hitem;obtain⟨b,off,a5,cap5,hadr,p0,p1,p2,p3,p4,-,hUB⟩:=U4.at hu;have d0:=(HB7.cell (p:=⟨b,off+k*5,none⟩) (World.block_lt_of_cell? WB _ p0)).trans p0;have d1:=(HB7.cell (p:=⟨b,off+k*5+1,none⟩) (World.block_lt_of_cell? WB _ p1)).trans p1;have d2:=(HB7.cell (p:=⟨b,off+k*5+2,none⟩) (World.block_lt_of_cell? WB _ p2)).trans p2;have d3:=(HB7.cell (p:=⟨b,off+k*5+3,none⟩) (World.block_lt_of_cell? WB _ p3)).trans p3;have d4:=(HB7.cell (p:=⟨b,off+k*5+4,none⟩) (World.block_lt_of_cell? WB _ p4)).trans p4;have HUB:=Za hUB;clear p0 p1 p2 p3 p4 hUB;subst hadr;have hlt':(k:Int)<(l.length:Int):=by omega
    have hbp:=bpl w7 (.cells #[.int .i64 u.author,.slice a5 u.seen.length cap5,.int .i64 u.kind,.int .i64 u.key,.int .i64 u.item] 33);have V8:=Za (Box.new w7 [.int .i64 u.author,.slice a5 u.seen.length cap5,.int .i64 u.kind,.int .i64 u.key,.int .i64 u.item] 33);have O8:=Za (Zp O7.out hbp (nlr _));have T8:=Za (Zp T7.out hbp (nlr _));have X8:=Za (X7.below hbp (nlr _));have HB8:=Za (Zb HB7.out hbp);have n1:¬(w7.heap.size=w5.heap.size):=by have:=X7.lt;omega
    have n2:¬(w5.heap.size=w7.heap.size):=by have:=X7.lt;omega
    have x1:=X8.get 1 rfl;clear O7 T7 HB7 hbp X7
    go_wp2_with fail
    refine(playLives_fn _ _ u (playLv s.lives (l.take k)) WB _ HUB.out HB8.out O8.out HFit.out HOk.order HFR.out (by omega)).mono ?_;rintro e w9 ⟨v9,rfl,ho9,hg9⟩;obtain⟨aL3,cL3,hv9,-⟩:=Zl Ze ho9;subst hv9;have X9:=X8.grownT O8.out hg9 (by decide);have V9:=V8.grownT O8.out hg9 (by decide);have T9:=Za (Yd (Xt T8.out O8.out hg9 (by decide)) X9 (by decide) 1 (.slice aL3 (Xl (playLv s.lives (l.take k)) u).length cL3));have O9:=Za (Yd ho9 X9 (by decide) 1 (.slice aL3 (Xl (playLv s.lives (l.take k)) u).length cL3));have HB9:Hid (Below WB.heap.size WB (w9.setCell ⟨w5.heap.size,1,none⟩ (.slice aL3 (Xl (playLv s.lives (l.take k)) u).length cL3))):=(HB8.grown hg9 HB8.size (fun k hk=>(O8.lt k hk).1)).setCell (p:=⟨w5.heap.size,1,none⟩) hg6.out _;have c1:=X9.get 1 rfl;have f1:=X9.free 1;have XS9:=Za (X9.set 1 (.slice aL3 (Xl (playLv s.lives (l.take k)) u).length cL3));have VS9:=Za (V9.away (g':=w5.heap.size) (i:=1) (v:=.slice aL3 (Xl (playLv s.lives (l.take k)) u).length cL3) n1);clear ho9 hg9 O8 T8 V8 HB8 X8 d0 d1 d2 d3 d4 x1 X9 V9;obtain⟨e0,e1,e2,e3,e4⟩:=VS9.c5;have x2:=XS9.get 2 rfl
    go_wp2_with fail
    refine(playTallies_fn _ _ u (playT s.tals (l.take k)) WB _ HUB.out HB9.out T9.out HOk.ord (by omega) HOk.sums HIT.out).mono ?_;rintro e w10 ⟨v10,rfl,ho10,hg10⟩;obtain⟨aT3,cT3,hv10,-⟩:=Zl Zg ho10;subst hv10;have X10:=XS9.grownT T9.out hg10 (by decide);have O10:=Za (Yd (Xt O9.out T9.out hg10 (by decide)) X10 (by decide) 2 (.slice aT3 (Jt (playT s.tals (l.take k)) u).length cT3));have T10:=Za (Yd ho10 X10 (by decide) 2 (.slice aT3 (Jt (playT s.tals (l.take k)) u).length cT3));have HB10:Hid (Below WB.heap.size WB (w10.setCell ⟨w5.heap.size,2,none⟩ (.slice aT3 (Jt (playT s.tals (l.take k)) u).length cT3))):=(HB9.grown hg10 HB9.size (fun k hk=>(T9.lt k hk).1)).setCell (p:=⟨w5.heap.size,2,none⟩) hg6.out _;have XS10:=Za (X10.set 2 (.slice aT3 (Jt (playT s.tals (l.take k)) u).length cT3));have c2:=X10.get 2 rfl;have f2:=X10.free 2;clear ho10 hg10 O9 T9 VS9 HB9 XS9 X10 c1 f1 e0 e1 e2 e3 e4 x2;have q1:Hid (playLv s.lives (l.take (k+1))=Xl (playLv s.lives (l.take k)) u):=by unfold Hid;rw[HTK.out,playLv_append];rfl
    have q2:Hid (playT s.tals (l.take (k+1))=Jt (playT s.tals (l.take k)) u):=by unfold Hid;rw[HTK.out,playT_append];rfl
    go_wp2_with fail
    go_roundw
    case rel=>exact⟨k+1,_,_,by omega,by go_num,XS10,by rw[q1.out];exact O10,by rw[q2.out];exact T10,HB10⟩
    case measure=>simp[intOf];omega
   have hkl:l.take k=l:=List.take_of_length_le (by omega);rw[hkl]at O7 T7 X7;have hlt':¬(k:Int)<(l.length:Int):=by omega
   have R7:=Za (R4.low HB7.out (by have:=hszB.out;omega));have Z7:=Za (Z4.low HB7.out (by have:=hszB.out;omega));have Q7:=Za (Q4.below HB7.out (nlr _));have HBf:=Za (Zb HB4.out HB7.out);obtain⟨x0,x1,x2⟩:=X7.c3;obtain⟨c0,c1,c2⟩:=R7.c3;have f0:=R7.free 0;have f1:=R7.free 1;have f2:=R7.free 2;obtain⟨d0,d1⟩:=Z7.c2;have g0:=Z7.free 0;have g1:=Z7.free 1
   go_wp2_with fail
   have hR:=((((R7.set 0 (.slice aQ cx.length cQ)).set 1 (.slice aL2 (playLv s.lives l).length cL2)).set 2 (.slice aT2 (playT s.tals l).length cT2)).away (g':=w.heap.size+1+1) (i:=0) (v:=.int .i64 0) (by omega)).away (g':=w.heap.size+1+1) (i:=1) (v:=.int .i64 0) (by omega);have hZ:=((((Z7.away (g':=w.heap.size+1) (i:=0) (v:=.slice aQ cx.length cQ) (by omega)).away (g':=w.heap.size+1) (i:=1) (v:=.slice aL2 (playLv s.lives l).length cL2) (by omega)).away (g':=w.heap.size+1) (i:=2) (v:=.slice aT2 (playT s.tals l).length cT2) (by omega)).set 0 (.int .i64 0)).set 1 (.int .i64 0);have hS:Yl w7 (w.heap.size+3) (.agg #[.slice aQ cx.length cQ,.slice aL2 (playLv s.lives l).length cL2,.slice aT2 (playT s.tals l).length cT2]) ⟨cx,playLv s.lives l,playT s.tals l⟩:=⟨_,_,_,rfl,Q7.out,Zw O7.out (by have:=hszB.out;omega),Zw T7.out (by have:=hszB.out;omega)⟩;have hX:=HX.out;rw[←hcx.out]at hX;subst hX;refine bodyPost_ret (Xz rfl _ _ (w.heap.size+1) (w.heap.size+1+1) 27 65 _ _ (0,0) (0,0) _ _ rfl hR Tryz.underlying27 rfl Tryz.sizeState rfl hZ Tryz.underlying65 rfl Tryz.sizeFault) rfl ⟨_,rfl,?_,?_⟩
   ·exact((((hS.away (by omega) _ _).away (by omega) _ _).away (by omega) _ _).away (by omega) _ _).away (by omega) _ _
   exact((((HBf.setCell (by show w.heap.size≤w.heap.size+1;omega) _).setCell (by show w.heap.size≤w.heap.size+1;omega) _).setCell (by show w.heap.size≤w.heap.size+1;omega) _).setCell (by show w.heap.size≤w.heap.size+1+1;omega) _).setCell (by show w.heap.size≤w.heap.size+1+1;omega) _
  have hce':(ce != 0)=true:=by simp[hce]
  rw[if_neg hce]at HX;have hX:=HX.out;subst hX;clear HX hce
  go_enter Tryz.func112,Tryz.ntmps112
  obtain⟨cG0,cG1,cG2⟩:=G0.c3
  go_wp2_with fail
  refine(Xg _ s s.clock.length _ S0.out).mono ?_;rintro e w1 ⟨rfl,hb⟩;have HB1:=Za (Zb HB0.out hb);have S1:=Za (S0.below hb (nlr _));have C1:=Za (C0.below hb (nlr _));have L1:=Za (L0.below hb (nlr _));have T1:=Za (T0.below hb (nlr _));have U1:=Za (U0.below hb (nlr _));have G1:=Za (G0.below hb (nlr _));have R1:=Za (R0.below hb (nlr _));have Z1:=Za (Z0.below hb (nlr _));clear HB0 hb S0 C0 L0 T0 U0 G0 R0 Z0;rw[HR.out,HQ.out];clear cG0 cG1 cG2;have HB2:=Za (Zb HB1.out (bpl w1 (.cells #[.int .i64 0,.int .i64 q] 65)));have S2:=Za (S1.below (bpl w1 (.cells #[.int .i64 0,.int .i64 q] 65)) (nlr _));have C2:=Za (C1.below (bpl w1 (.cells #[.int .i64 0,.int .i64 q] 65)) (nlr _));have L2:=Za (L1.below (bpl w1 (.cells #[.int .i64 0,.int .i64 q] 65)) (nlr _));have T2:=Za (T1.below (bpl w1 (.cells #[.int .i64 0,.int .i64 q] 65)) (nlr _));have U2:=Za (U1.below (bpl w1 (.cells #[.int .i64 0,.int .i64 q] 65)) (nlr _));have G2:=Za (G1.below (bpl w1 (.cells #[.int .i64 0,.int .i64 q] 65)) (nlr _));have R2:=Za (R1.below (bpl w1 (.cells #[.int .i64 0,.int .i64 q] 65)) (nlr _));have Z2:=Za (Z1.below (bpl w1 (.cells #[.int .i64 0,.int .i64 q] 65)) (nlr _));have V2:=Za (Box.new w1 [.int .i64 0,.int .i64 q] 65);clear HB1 S1 C1 L1 T1 U1 G1 R1 Z1;obtain⟨cV0,cV1⟩:=V2.c2;obtain⟨cG0,cG1,cG2⟩:=G2.c3
  go_wp2_with fail
  refine(zF _ _ s.clock l s.clock.length _ C2.out U2.out).mono ?_;rintro e w3 ⟨vQ,rfl,ho,hb⟩;have HB3:=Za (Zb HB2.out hb);have S3:=Za (S2.below hb (nlr _));have C3:=Za (C2.below hb (nlr _));have L3:=Za (L2.below hb (nlr _));have T3:=Za (T2.below hb (nlr _));have U3:=Za (U2.below hb (nlr _));have G3:=Za (G2.below hb (nlr _));have R3:=Za (R2.below hb (nlr _));have Z3:=Za (Z2.below hb (nlr _));have V3:=Za (V2.below hb (nlr _));have Q3:=Za ho;clear HB2 hb S2 C2 L2 T2 U2 G2 R2 Z2 V2;clear ho;rw[HCE.out,HCA.out];clear cG0 cG1 cG2;clear cV0 cV1;have hzl:=Z3.lt;have n1:¬(w3.heap.size=w.heap.size+1):=by omega
  have n2:¬(w.heap.size+1=w3.heap.size):=by omega
  have n3:¬(w3.heap.size=w.heap.size+2):=by omega
  have n4:¬(w.heap.size+2=w3.heap.size):=by omega
  have HB4:=Za (Zb HB3.out (bpl w3 (.cells #[.int .i64 ce,.int .i64 ca] 65)));have S4:=Za (S3.below (bpl w3 (.cells #[.int .i64 ce,.int .i64 ca] 65)) (nlr _));have C4:=Za (C3.below (bpl w3 (.cells #[.int .i64 ce,.int .i64 ca] 65)) (nlr _));have L4:=Za (L3.below (bpl w3 (.cells #[.int .i64 ce,.int .i64 ca] 65)) (nlr _));have T4:=Za (T3.below (bpl w3 (.cells #[.int .i64 ce,.int .i64 ca] 65)) (nlr _));have U4:=Za (U3.below (bpl w3 (.cells #[.int .i64 ce,.int .i64 ca] 65)) (nlr _));have G4:=Za (G3.below (bpl w3 (.cells #[.int .i64 ce,.int .i64 ca] 65)) (nlr _));have R4:=Za (R3.below (bpl w3 (.cells #[.int .i64 ce,.int .i64 ca] 65)) (nlr _));have Z4:=Za (Z3.below (bpl w3 (.cells #[.int .i64 ce,.int .i64 ca] 65)) (nlr _));have V4:=Za (V3.below (bpl w3 (.cells #[.int .i64 ce,.int .i64 ca] 65)) (nlr _));have Q4:=Za (Q3.below (bpl w3 (.cells #[.int .i64 ce,.int .i64 ca] 65)) (nlr _));have Y4:=Za (Box.new w3 [.int .i64 ce,.int .i64 ca] 65);clear HB3 S3 C3 L3 T3 U3 G3 R3 Z3 V3 Q3;obtain⟨cY0,cY1⟩:=Y4.c2;obtain⟨cR0,cR1,cR2⟩:=R4.c3;obtain⟨cZ0,cZ1⟩:=Z4.c2;have f0:=R4.free 0;have f1:=R4.free 1;have f2:=R4.free 2;have g0:=Z4.free 0;have g1:=Z4.free 1
  go_upto_region 7 with fail
  go_region
  go_wp2_with fail
  have hR:=((((R4.set 0 (.slice none 0 0)).set 1 (.slice none 0 0)).set 2 (.slice none 0 0)).away (g':=w.heap.size+1+1) (i:=0) (v:=.int .i64 ce) (by omega)).away (g':=w.heap.size+1+1) (i:=1) (v:=.int .i64 ca) (by omega);have hZ:=((((Z4.away (g':=w.heap.size+1) (i:=0) (v:=.slice none 0 0) (by omega)).away (g':=w.heap.size+1) (i:=1) (v:=.slice none 0 0) (by omega)).away (g':=w.heap.size+1) (i:=2) (v:=.slice none 0 0) (by omega)).set 0 (.int .i64 ce)).set 1 (.int .i64 ca);refine bodyPost_ret (Xz rfl _ _ (w.heap.size+1) (w.heap.size+1+1) 27 65 _ _ (0,0) (0,0) _ _ rfl hR.drew Tryz.underlying27 rfl Tryz.sizeState rfl hZ.drew Tryz.underlying65 rfl Tryz.sizeFault) rfl ⟨_,rfl,Yl.none _ _,?_⟩
  exact(((((HB4.setCell (by show w.heap.size≤w.heap.size+1;omega) _).setCell (by show w.heap.size≤w.heap.size+1;omega) _).setCell (by show w.heap.size≤w.heap.size+1;omega) _).setCell (by show w.heap.size≤w.heap.size+1+1;omega) _).setCell (by show w.heap.size≤w.heap.size+1+1;omega) _).drew
 have hr':(r != 0)=true:=by simp[hr]
 obtain rfl:r=E:=by rw[←HE.out];simp[hr]
 obtain rfl:(0:Int)=A:=by rw[←HA.out];simp[hr]
 rw[if_neg hr]at HX;have hX:=HX.out;subst hX;clear HE HA HX hr
 go_enter Tryz.func112,Tryz.ntmps112
 obtain⟨cG0,cG1,cG2⟩:=G0.c3
 go_wp2_with fail
 refine(Xg _ s s.clock.length _ S0.out).mono ?_;rintro e w1 ⟨rfl,hb⟩;have HB1:=Za (Zb HB0.out hb);have S1:=Za (S0.below hb (nlr _));have C1:=Za (C0.below hb (nlr _));have L1:=Za (L0.below hb (nlr _));have T1:=Za (T0.below hb (nlr _));have U1:=Za (U0.below hb (nlr _));have G1:=Za (G0.below hb (nlr _));have R1:=Za (R0.below hb (nlr _));have Z1:=Za (Z0.below hb (nlr _));clear HB0 hb S0 C0 L0 T0 U0 G0 R0 Z0;rw[HR.out,HQ.out];have hzl:=Z1.lt;have n1:¬(w1.heap.size=w.heap.size+1):=by omega
 have n2:¬(w.heap.size+1=w1.heap.size):=by omega
 have n3:¬(w1.heap.size=w.heap.size+2):=by omega
 have n4:¬(w.heap.size+2=w1.heap.size):=by omega
 clear cG0 cG1 cG2;have HB2:=Za (Zb HB1.out (bpl w1 (.cells #[.int .i64 r,.int .i64 q] 65)));have S2:=Za (S1.below (bpl w1 (.cells #[.int .i64 r,.int .i64 q] 65)) (nlr _));have C2:=Za (C1.below (bpl w1 (.cells #[.int .i64 r,.int .i64 q] 65)) (nlr _));have L2:=Za (L1.below (bpl w1 (.cells #[.int .i64 r,.int .i64 q] 65)) (nlr _));have T2:=Za (T1.below (bpl w1 (.cells #[.int .i64 r,.int .i64 q] 65)) (nlr _));have U2:=Za (U1.below (bpl w1 (.cells #[.int .i64 r,.int .i64 q] 65)) (nlr _));have G2:=Za (G1.below (bpl w1 (.cells #[.int .i64 r,.int .i64 q] 65)) (nlr _));have R2:=Za (R1.below (bpl w1 (.cells #[.int .i64 r,.int .i64 q] 65)) (nlr _));have Z2:=Za (Z1.below (bpl w1 (.cells #[.int .i64 r,.int .i64 q] 65)) (nlr _));have V2:=Za (Box.new w1 [.int .i64 r,.int .i64 q] 65);clear HB1 S1 C1 L1 T1 U1 G1 R1 Z1;obtain⟨cV0,cV1⟩:=V2.c2;obtain⟨cR0,cR1,cR2⟩:=R2.c3;obtain⟨cZ0,cZ1⟩:=Z2.c2;have f0:=R2.free 0;have f1:=R2.free 1;have f2:=R2.free 2;have g0:=Z2.free 0;have g1:=Z2.free 1
 go_upto_region 4 with fail
 go_region
 go_wp2_with fail
 have hR:=((((R2.set 0 (.slice none 0 0)).set 1 (.slice none 0 0)).set 2 (.slice none 0 0)).away (g':=w.heap.size+1+1) (i:=0) (v:=.int .i64 r) (by omega)).away (g':=w.heap.size+1+1) (i:=1) (v:=.int .i64 0) (by omega);have hZ:=((((Z2.away (g':=w.heap.size+1) (i:=0) (v:=.slice none 0 0) (by omega)).away (g':=w.heap.size+1) (i:=1) (v:=.slice none 0 0) (by omega)).away (g':=w.heap.size+1) (i:=2) (v:=.slice none 0 0) (by omega)).set 0 (.int .i64 r)).set 1 (.int .i64 0);refine bodyPost_ret (Xz rfl _ _ (w.heap.size+1) (w.heap.size+1+1) 27 65 _ _ (0,0) (0,0) _ _ rfl hR.drew Tryz.underlying27 rfl Tryz.sizeState rfl hZ.drew Tryz.underlying65 rfl Tryz.sizeFault) rfl ⟨_,rfl,Yl.none _ _,?_⟩
 exact(((((HB2.setCell (by show w.heap.size≤w.heap.size+1;omega) _).setCell (by show w.heap.size≤w.heap.size+1;omega) _).setCell (by show w.heap.size≤w.heap.size+1;omega) _).setCell (by show w.heap.size≤w.heap.size+1+1;omega) _).setCell (by show w.heap.size≤w.heap.size+1+1;omega) _).drew


theorem log_box{w:World}{g:Nat}{u:Upd}{sv:Value}(h:Box w g [.int .i64 u.author,sv,.int .i64 u.kind,.int .i64 u.key,.int .i64 u.item] 33)(hs:Row w sv u.seen):Vh w (.slice (some ⟨g,0,none⟩) 1 1) [u]:=by
 refine⟨some ⟨g,0,none⟩,1,rfl,by simp,by unfold maxLen;omega,fun i x hi=>?_⟩
 cases i with
 |zero=>
  simp at hi
  subst hi;exact⟨g,0,rfl,sv,hs,h.get 0 rfl,h.get 1 rfl,h.get 2 rfl,h.get 3 rfl,h.get 4 rfl⟩
 |succ i=>simp at hi

set_option maxRecDepth 100000 in
set_option maxHeartbeats 2000000 in
theorem apply_state(v uv:Value)(s:StS)(u:Upd)(w:World)(h:Jp w v s)(hu:Jf w uv u):
  Calls Tryz.prog 81 #[v,uv] w fun e w'=>∃rv,e=.returned (.tuple #[rv,.int .i64 (Ol s [u])])∧Yl w' (w.heap.size+3) rv (yB s [u])∧Below w.heap.size w w':=by
 have hin:=h;obtain⟨cv,lv,tv,rfl,hc,hv,ht⟩:=h;obtain⟨a1,cap1,rfl,-,-,-⟩:=id hc;obtain⟨a2,cap2,rfl,-,-,-⟩:=id hv;obtain⟨a3,cap3,rfl,-,-,-⟩:=id ht;obtain⟨sv,rfl,hs⟩:=hu;obtain⟨a5,cap5,rfl,-,-,-⟩:=id hs;have hb3:=Below.plus (Below.plus (bpl w (.cells #[.slice a1 s.clock.length cap1,.slice a2 s.lives.length cap2,.slice a3 s.tals.length cap3] 27)) (.cells #[.int .i64 u.author,.slice a5 u.seen.length cap5,.int .i64 u.kind,.int .i64 u.key,.int .i64 u.item] 33)) (.cells #[.slice none 0 0,.slice none 0 0,.slice none 0 0] 27);have S0:=Za (hin.below hb3 (nlr _));have U0:=Za (hs.below hb3 (nlr _));have R0:=Za (Box.new ((w.alloc (.cells #[.slice a1 s.clock.length cap1,.slice a2 s.lives.length cap2,.slice a3 s.tals.length cap3] 27)).alloc (.cells #[.int .i64 u.author,.slice a5 u.seen.length cap5,.int .i64 u.kind,.int .i64 u.key,.int .i64 u.item] 33)) [.slice none 0 0,.slice none 0 0,.slice none 0 0] 27);rw[World.size_alloc,World.size_alloc]at R0;have HB0:=Za hb3;clear hin hc hv ht hs hb3;obtain⟨E,HE⟩:∃E,Hid (Ol s [u]=E):=⟨_,rfl⟩;obtain⟨A,HA⟩:∃A,Hid (playA s [u]=A):=⟨_,rfl⟩;obtain⟨X,HX⟩:∃X,Hid (yB s [u]=X):=⟨_,rfl⟩;rw[HE.out,HX.out];obtain⟨W0,HW0⟩:∃W0,Hid (((w.alloc (.cells #[.slice a1 s.clock.length cap1,.slice a2 s.lives.length cap2,.slice a3 s.tals.length cap3] 27)).alloc (.cells #[.int .i64 u.author,.slice a5 u.seen.length cap5,.int .i64 u.kind,.int .i64 u.key,.int .i64 u.item] 33)).alloc (.cells #[.slice none 0 0,.slice none 0 0,.slice none 0 0] 27)=W0):=⟨_,rfl⟩;have hsz:Hid (W0.heap.size=w.heap.size+1+1+1):=by unfold Hid;rw[←HW0.out,World.size_alloc,World.size_alloc,World.size_alloc]
 rw[HW0.out]at S0 U0 R0 HB0;have hbp:=bpl W0 (.cells #[.int .i64 u.author,.slice a5 u.seen.length cap5,.int .i64 u.kind,.int .i64 u.key,.int .i64 u.item] 33);have S1:=Za (S0.below hbp (nlr _));have L1:=Za (log_box (Box.new W0 [.int .i64 u.author,.slice a5 u.seen.length cap5,.int .i64 u.kind,.int .i64 u.key,.int .i64 u.item] 33) (U0.below hbp (nlr _)));have R1:=Za (R0.below hbp (nlr _));have HB1:=Za (Zb HB0.out hbp);rw[hsz.out]at L1;clear S0 U0 R0 HB0 hbp
 go_enter Tryz.func81,Tryz.ntmps81
 go_wp2_with fail
 rw[HW0.out];refine(play_state _ _ s [u] _ S1.out L1.out).mono ?_;rintro e w2 ⟨rv,rfl,ho,hb⟩;rw[HE.out,HA.out];rw[HX.out]at ho;have R2:=Za (R1.below hb (nlr _));have HB2:=Za (Zb HB1.out hb);have hs2:Hid (W0.heap.size+1≤w2.heap.size):=by have:=hb.size;rw[World.size_alloc]at this;exact this
 have O2:=Za (ho.base (C:=w.heap.size+3) (by rw[World.size_alloc,hsz.out];omega));clear ho hb S1 L1 R1 HB1;obtain⟨cv,lv,tv,hrv,k1,k2,k3⟩:=id O2.out;obtain⟨aC,cC,hcv,-⟩:=k1.row;obtain⟨aL,cL,hlv,-⟩:=Zl Ze k2;obtain⟨aT,cT,htv,-⟩:=Zl Zg k3;clear k1 k2 k3;subst hcv hlv htv hrv;have n1:Hid (w.heap.size+1+1<w2.heap.size):=by have:=hs2.out;have:=hsz.out;unfold Hid;omega
 have hb1:=bpl w2 (.cells #[.slice aC X.clock.length cC,.slice aL X.lives.length cL,.slice aT X.tals.length cT] 27);have hb2:=Below.plus hb1 (.cells #[.int .i64 E,.int .i64 A] 65);have R4:=Za (R2.below hb2 (nlr _));have O4:=Za (O2.below hb2 (nlr _));have HB4:=Za (Zb HB2.out hb2);have n2:¬(w2.heap.size=w.heap.size+1+1):=by have:=n1.out;omega
 have n3:¬(w.heap.size+1+1=w2.heap.size):=by have:=n1.out;omega
 have n4:¬(w2.heap.size+1=w.heap.size+1+1):=by have:=n1.out;omega
 have n5:¬(w.heap.size+1+1=w2.heap.size+1):=by have:=n1.out;omega
 clear R2 O2 HB2 hb1 hb2;obtain⟨c0,c1,c2⟩:=R4.c3;have f0:=R4.free 0;have f1:=R4.free 1;have f2:=R4.free 2
 go_upto_region 2 with fail
 go_region
 go_wp2_with fail
 have hR:=((R4.set 0 (.slice aC X.clock.length cC)).set 1 (.slice aL X.lives.length cL)).set 2 (.slice aT X.tals.length cT);refine bodyPost_ret (Zc rfl _ _ (w.heap.size+1+1) 27 _ (0,0) _ rfl hR.drew Tryz.underlying27 rfl Tryz.sizeState) rfl ⟨_,rfl,?_,?_⟩
 ·exact(((O4.away (by omega) _ _).away (by omega) _ _).away (by omega) _ _)
 exact(((HB4.setCell (by show w.heap.size≤w.heap.size+1+1;omega) _).setCell (by show w.heap.size≤w.heap.size+1+1;omega) _).setCell (by show w.heap.size≤w.heap.size+1+1;omega) _).drew
end Go.Proofs.YtfhecilhcofboaaGreat
