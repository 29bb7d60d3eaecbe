/- Package join: isNew, hasLive, joinLives, joinTallies, Join. -/
import Derived.Test.YtfhecilhcofboaaGreatJoS
namespace Go.Proofs.YtfhecilhcofboaaGreat
open Go.RowKit

set_option maxRecDepth 100000 in
set_option maxHeartbeats 1000000 in
theorem isNew_fn(x:Zk)(v:Value)(s:StS)(w:World)(h:Jp w v s):
  Calls Tryz.prog 125 #[.agg #[.bool x.set,.int .i64 x.key,.int .i64 x.item,.int .i64 x.author,.int .i64 x.seq],v] w fun e w'=>e=.returned (.bool (!Vy s.clock x.author x.seq))∧Below w.heap.size w w':=by
 obtain⟨cv,lv,tv,rfl,hc,hv,ht⟩:=h;obtain⟨a1,cap1,rfl,-,-,-⟩:=id hc;obtain⟨a2,cap2,rfl,-,-,-⟩:=id hv;obtain⟨a3,cap3,rfl,-,-,-⟩:=id ht;have hb:=Below.plus (bpl w (.cells #[.bool x.set,.int .i64 x.key,.int .i64 x.item,.int .i64 x.author,.int .i64 x.seq] 106)) (.cells #[.slice a1 s.clock.length cap1,.slice a2 s.lives.length cap2,.slice a3 s.tals.length cap3] 27);have C0:=Za (hc.below hb (nlr _));have HB0:=Za hb;clear hc hv ht hb;obtain⟨q,HQ⟩:∃q,Hid (Vy s.clock x.author x.seq=q):=⟨_,rfl⟩;rw[HQ.out]
 go_enter Tryz.func125,Tryz.ntmps125
 go_wp2_with fail
 refine(xB _ s.clock x.author x.seq _ C0.out).mono ?_;rintro e w' ⟨rfl,hw'⟩;rw[hw',HQ.out];clear hw' w'
 go_wp2_with fail
 go_ret
 exact⟨rfl,HB0.out⟩
theorem found_has{l:List Zk}{x:Zk}{k:Nat}{fo:Bool}(ho:Yx l)(h1:∀(i:Nat) (y:Zk),i<k→l[i]? =some y→Yj y x<0)(h2:∀(i:Nat) (y:Zk),k≤i→l[i]? =some y→0≤Yj y x)(hf:fo=true↔∃y,l[k]? =some y∧Yj y x=0):fo=hasL l x:=by
 have hz:Yj x x=0:=zE.2 rfl
 have key:fo=true↔hasL l x=true:=by
  rw[hf,zQ]
  constructor
  ·rintro⟨y,hy,he⟩;rw[zE]at he;subst he;exact List.mem_of_getElem? hy
  intro hx;obtain⟨i,hi⟩:=List.getElem?_of_mem hx
  have hki:k≤i:=by
   rcases Nat.lt_or_ge i k with h|h
   ·have:=h1 i x h hi;omega
   exact h
  rcases Nat.lt_or_ge k i with h|h
  ·obtain⟨hlt,-⟩:=List.getElem?_eq_some_iff.1 hi;have hy:l[k]? =some l[k]:=List.getElem?_eq_getElem (by omega);have h3:=h2 k _ (nlr _) hy
   have h4:Jd l[k] x:=by
    have:=List.pairwise_iff_getElem.1 ho k i (by omega) hlt h;rw[(List.getElem?_eq_some_iff.1 hi).2]at this;exact this
   have:=Jw.2 h4;omega
  have:k=i:=by omega
  subst this;exact⟨x,hi,hz⟩
 cases fo <;> cases hh:hasL l x <;> simp_all
theorem mono_live{l:List Zk}(ho:Yx l)(x:Zk):∀(i j:Nat) (y z:Zk),i≤j→l[i]? =some y→l[j]? =some z→Yj z x<0→Yj y x<0:=by
 intro i j y z hij hy hz h
 rcases Nat.lt_or_ge i j with h1|h1
 ·obtain⟨hi,rfl⟩:=List.getElem?_eq_some_iff.1 hy;obtain⟨hj,rfl⟩:=List.getElem?_eq_some_iff.1 hz;have:=List.pairwise_iff_getElem.1 ho i j hi hj h1;exact Jw.2 (Je this (Jw.1 h))
 have:i=j:=by omega
 subst this;rw[hy]at hz;rw[Option.some.inj hz];exact h
set_option maxRecDepth 100000 in
set_option maxHeartbeats 1000000 in
theorem hasLive_fn(v:Value)(s:StS)(x:Zk)(w:World)(h:Jp w v s)(ho:Yx s.lives)(hbig:s.lives.length≤4000000000):
  Calls Tryz.prog 126 #[v,.agg #[.bool x.set,.int .i64 x.key,.int .i64 x.item,.int .i64 x.author,.int .i64 x.seq]] w fun e w'=>e=.returned (.bool (hasL s.lives x))∧Below w.heap.size w w':=by
 obtain⟨cv,lv,tv,rfl,hc,hv,ht⟩:=h;obtain⟨a1,cap1,rfl,-,-,-⟩:=id hc;obtain⟨a2,cap2,rfl,-,-,-⟩:=id hv;obtain⟨a3,cap3,rfl,-,-,-⟩:=id ht;have hb:=Below.plus (bpl w (.cells #[.slice a1 s.clock.length cap1,.slice a2 s.lives.length cap2,.slice a3 s.tals.length cap3] 27)) (.cells #[.bool x.set,.int .i64 x.key,.int .i64 x.item,.int .i64 x.author,.int .i64 x.seq] 106);have L0:=Za (hv.below hb (nlr _));have HB0:=Za hb;have HO:=Za ho;have HBIG:=Za hbig;clear hc hv ht hb ho hbig;obtain⟨q,HQ⟩:∃q,Hid (hasL s.lives x=q):=⟨_,rfl⟩;rw[HQ.out]
 go_enter Tryz.func126,Tryz.ntmps126
 go_wp2_with fail
 refine(bsearch_live _ s.lives x _ L0.out HBIG.out (mono_live HO.out x)).mono ?_;rintro e w1 ⟨k,fo,rfl,⟨-,h1,h2,h3⟩,hb⟩;have hfq:fo=q:=(found_has HO.out h1 h2 h3).trans HQ.out;subst hfq;have HB1:=Za (Zb HB0.out hb);clear h1 h2 h3 hb
 go_wp2_with fail
 go_ret
 exact⟨rfl,HB1.out⟩
def Xm{α:Type}(e:TypeId)(sz:Nat)(enc:α→List Value)(w:World)(B:Nat)(v:Value)(l:List α):Prop:=w.ownsRow B e sz v l.length (cellsS enc l)
section
variable {α:Type}{e:TypeId}{sz:Nat}{enc:α→List Value}
theorem Xm.below{w w':World}{B C:Nat}{v:Value}{l:List α}(h:Xm e sz enc w B v l)(hb:Below C w w')(hC:w.heap.size≤C):Xm e sz enc w' B v l:=Zp h hb hC
theorem Xm.alloc{w:World}{B:Nat}{v:Value}{l:List α}(h:Xm e sz enc w B v l)(o:Obj):Xm e sz enc (w.alloc o) B v l:=h.below ((Below.refl w.heap.size _).alloc (nlr _) o) (nlr _)
theorem Xm.more{w:World}{B:Nat}{v:Value}{l:List α}{x:α}(h:w.ownsRow B e sz v (l.length+1) (cellsS enc l++enc x)):Xm e sz enc w B v (l++[x]):=by
 unfold Xm;rw[Vx,List.length_append];exact h
theorem Xm.nil(w:World)(B:Nat):Xm e sz enc w B (.slice none 0 0) []:=World.ownsRow_nil _ _ _ _
end
theorem keep_step{α:Type}(p:α→Bool){l:List α}{k:Nat}{x:α}(h:l[k]? =some x):(l.take (k+1)).filter p=if p x then(l.take k).filter p++[x]else(l.take k).filter p:=by
 obtain⟨hk,rfl⟩:=List.getElem?_eq_some_iff.1 h;rw[List.take_succ_eq_append_getElem hk,List.filter_append]
 cases hp:p l[k] <;> simp[hp]
theorem keep_len{α:Type}(p:α→Bool)(l:List α)(k:Nat):((l.take k).filter p).length≤l.length:=Nat.le_trans (List.length_filter_le _ _) (by rw[List.length_take];omega)
set_option maxRecDepth 100000 in
set_option maxHeartbeats 2000000 in
theorem joinLives_fn(va vb:Value)(a b:StS)(n:Int)(w:World)(ha:Jp w va a)(hb:Jp w vb b)(oa:OkS n a.clock a.lives a.tals)(ob:OkS n b.clock b.lives b.tals):
  Calls Tryz.prog 116 #[va,vb] w fun e w'=>∃v,e=.returned v∧w'.ownsRow w.heap.size 106 5 v (Xr ltL (zK a b)).length (cellsS Zv (Xr ltL (zK a b)))∧Below w.heap.size w w':=by
 have hain:=ha;have hbin:=hb;obtain⟨cv,lv,tv,rfl,hc,hv,ht⟩:=ha;obtain⟨a1,cap1,rfl,-,-,-⟩:=id hc;obtain⟨a2,cap2,rfl,-,-,-⟩:=id hv;obtain⟨a3,cap3,rfl,-,-,-⟩:=id ht;obtain⟨cv',lv',tv',rfl,hc',hv',ht'⟩:=hb;obtain⟨b1,dap1,rfl,-,-,-⟩:=id hc';obtain⟨b2,dap2,rfl,-,-,-⟩:=id hv';obtain⟨b3,dap3,rfl,-,-,-⟩:=id ht';obtain⟨i0,hi,hz0,hz1,hz2⟩:=info_parts Tryz.infoLive;have hbl:=Below.plus (bpl w (.cells #[.slice a1 a.clock.length cap1,.slice a2 a.lives.length cap2,.slice a3 a.tals.length cap3] 27)) (.cells #[.slice b1 b.clock.length dap1,.slice b2 b.lives.length dap2,.slice b3 b.tals.length dap3] 27);have S0:=Za (hain.below hbl (nlr _));have T0:=Za (hbin.below hbl (nlr _));have L0:=Za (hv.below hbl (nlr _));have M0:=Za (hv'.below hbl (nlr _));have G0:=Za ((Box.new w [.slice a1 a.clock.length cap1,.slice a2 a.lives.length cap2,.slice a3 a.tals.length cap3] 27).plus (.cells #[.slice b1 b.clock.length dap1,.slice b2 b.lives.length dap2,.slice b3 b.tals.length dap3] 27));have K0:=Za (Box.new (w.alloc (.cells #[.slice a1 a.clock.length cap1,.slice a2 a.lives.length cap2,.slice a3 a.tals.length cap3] 27)) [.slice b1 b.clock.length dap1,.slice b2 b.lives.length dap2,.slice b3 b.tals.length dap3] 27);rw[World.size_alloc]at K0;have HB0:=Za hbl;have HOA:=Za oa;have HOB:=Za ob;obtain⟨fa,-⟩:=oa.few;obtain⟨fb,-⟩:=ob.few;clear hain hbin hc hv ht hc' hv' ht' hbl oa ob;obtain⟨W0,HW0⟩:∃W0,Hid ((w.alloc (.cells #[.slice a1 a.clock.length cap1,.slice a2 a.lives.length cap2,.slice a3 a.tals.length cap3] 27)).alloc (.cells #[.slice b1 b.clock.length dap1,.slice b2 b.lives.length dap2,.slice b3 b.tals.length dap3] 27)=W0):=⟨_,rfl⟩;have HLE:Hid (w.heap.size≤W0.heap.size):=by unfold Hid;rw[←HW0.out];simp;omega
 rw[HW0.out]at S0 T0 L0 M0 G0 K0 HB0
 go_enter Tryz.func116,Tryz.ntmps116
 go_wp2_with fail
 rw[HW0.out]
 go_loopw [5,13] (fun o i wr=>∃k:Nat,k≤a.lives.length∧i=.int .i64 k∧Hid (Xm 106 5 Zv wr W0.heap.size o ((a.lives.take k).filter (zZ b)))∧Hid (Below W0.heap.size W0 wr)) (fun _ i _=>a.lives.length - (intOf i).toNat)
 case atStart=>exact⟨0,Nat.zero_le _,rfl,Xm.nil _ _,Za (Below.refl _ _)⟩
 obtain⟨k,hk,rfl,O10,HB10⟩:=hrel;obtain⟨w10,rfl⟩:∃w10,w10=wr:=⟨wr,rfl⟩;have T10:=Za (T0.below HB10.out (nlr _));have K10:=Za (K0.below HB10.out (nlr _))
 by_cases hlt:k<a.lives.length
 ·obtain⟨x,hx⟩:∃x,a.lives[k]? =some x:=⟨_,List.getElem?_eq_getElem hlt⟩;obtain⟨bb,off,rfl,d0,d1,d2,d3,d4⟩:=Va (L0.below HB10.out (nlr _)) hx;have hlt':(k:Int)<(a.lives.length:Int):=by omega
  have HST:=Za (keep_step (zZ b) hx);have HPL:=Za (keep_len (zZ b) a.lives k);obtain⟨l0,HL0⟩:∃l0,Hid ((a.lives.take k).filter (zZ b)=l0):=⟨_,rfl⟩;rw[HL0.out]at O10 HST HPL;obtain⟨q1,HQ1⟩:∃q1,Hid (Vy b.clock x.author x.seq=q1):=⟨_,rfl⟩;obtain⟨q2,HQ2⟩:∃q2,Hid (hasL b.lives x=q2):=⟨_,rfl⟩;have HS:Hid (zZ b x=(!q1||q2)):=by unfold Hid zZ;rw[HQ1.out,HQ2.out]
  rw[HS.out]at HST;clear S0 L0 M0 G0 T0 K0 hx HS
  cases q1
  ·have hnot:(!false)=true:=rfl;have HB11:=Za (Zb HB10.out (bpl w10 (.cells #[.bool x.set,.int .i64 x.key,.int .i64 x.item,.int .i64 x.author,.int .i64 x.seq] 106)));have T11:=Za (T10.below (bpl w10 (.cells #[.bool x.set,.int .i64 x.key,.int .i64 x.item,.int .i64 x.author,.int .i64 x.seq] 106)) (nlr _));have K11:=Za (K10.below (bpl w10 (.cells #[.bool x.set,.int .i64 x.key,.int .i64 x.item,.int .i64 x.author,.int .i64 x.seq] 106)) (nlr _));have O11:=Za (O10.below (bpl w10 (.cells #[.bool x.set,.int .i64 x.key,.int .i64 x.item,.int .i64 x.author,.int .i64 x.seq] 106)) (nlr _));have V11:=Za (Box.new w10 [.bool x.set,.int .i64 x.key,.int .i64 x.item,.int .i64 x.author,.int .i64 x.seq] 106);clear HB10 T10 K10 O10;obtain⟨cK0,cK1,cK2⟩:=K11.c3
   go_wp2_with fail
   refine(isNew_fn x _ b _ T11.out).mono ?_;rintro e w12 ⟨rfl,hb⟩;have HB12:=Za (Zb HB11.out hb);have T12:=Za (T11.below hb (nlr _));have K12:=Za (K11.below hb (nlr _));have O12:=Za (O11.below hb (nlr _));have V12:=Za (V11.below hb (nlr _));clear HB11 hb T11 K11 O11 V11;rw[HQ1.out];clear cK0 cK1 cK2;obtain⟨cV0,cV1,cV2,cV3,cV4⟩:=V12.c5
   go_wp2_with (at_builtin;refine wpList_append_own _ rfl (.tmp 25) (.tmp 27) 24 rfl W0.heap.size 106 i0 (.agg #[.bool false,.int .i64 0,.int .i64 0,.int .i64 0,.int .i64 0]) 5 40 Tryz.underlying24 hi hz0 hz1 hz2 rfl (by decide) _ _ _ rfl (O12.alloc _) ⟨w12.heap.size,0,none⟩ 1 1 (Zv x) rfl rfl ?c1 ?c2 ?c3 ?c4 ?c5 ?_)
   case c1=>intro j q hj;match j,hj with|0,hj=>(simp[Zv]at hj;subst hj;simp[Addr.add])|1,hj=>(simp[Zv]at hj;subst hj;simp[Addr.add])|2,hj=>(simp[Zv]at hj;subst hj;simp[Addr.add])|3,hj=>(simp[Zv]at hj;subst hj;simp[Addr.add])|4,hj=>(simp[Zv]at hj;subst hj;simp[Addr.add])|(j+5),hj=>simp[Zv]at hj
   case c2=>exact Vo x
   case c3=>unfold maxLen;have:=HPL.out;omega
   case c4=>have:=HPL.out;omega
   case c5=>have:=HB12.size;simp;omega
   intro v' w13 hown' hgrow _;have HB13:=Za (((Below.plus HB12.out _).grown hgrow (by have:=HB12.size;simp;omega) (fun g hg=>(World.ownsRow.lt O12.out g hg).1)));have O13:=Za (Xm.more hown');clear hown' hgrow
   go_wp2_with fail
   go_roundw
   case rel=>exact⟨k+1,by omega,by go_num,by rw[HST.out,if_pos (by simp)];exact O13,HB13⟩
   case measure=>simp[intOf];omega
  have hnot:(!true)=false:=rfl;have HB11:=Za (Zb HB10.out (bpl w10 (.cells #[.bool x.set,.int .i64 x.key,.int .i64 x.item,.int .i64 x.author,.int .i64 x.seq] 106)));have T11:=Za (T10.below (bpl w10 (.cells #[.bool x.set,.int .i64 x.key,.int .i64 x.item,.int .i64 x.author,.int .i64 x.seq] 106)) (nlr _));have K11:=Za (K10.below (bpl w10 (.cells #[.bool x.set,.int .i64 x.key,.int .i64 x.item,.int .i64 x.author,.int .i64 x.seq] 106)) (nlr _));have O11:=Za (O10.below (bpl w10 (.cells #[.bool x.set,.int .i64 x.key,.int .i64 x.item,.int .i64 x.author,.int .i64 x.seq] 106)) (nlr _));have V11:=Za (Box.new w10 [.bool x.set,.int .i64 x.key,.int .i64 x.item,.int .i64 x.author,.int .i64 x.seq] 106);clear HB10 T10 K10 O10;obtain⟨cK0,cK1,cK2⟩:=K11.c3
  go_wp2_with fail
  refine(isNew_fn x _ b _ T11.out).mono ?_;rintro e w12 ⟨rfl,hb⟩;have HB12:=Za (Zb HB11.out hb);have T12:=Za (T11.below hb (nlr _));have K12:=Za (K11.below hb (nlr _));have O12:=Za (O11.below hb (nlr _));have V12:=Za (V11.below hb (nlr _));clear HB11 hb T11 K11 O11 V11;rw[HQ1.out];clear cK0 cK1 cK2;obtain⟨cK0,cK1,cK2⟩:=K12.c3;obtain⟨cV0,cV1,cV2,cV3,cV4⟩:=V12.c5
  go_wp2_with fail
  refine(hasLive_fn _ b x _ T12.out HOB.order (by omega)).mono ?_;rintro e w13 ⟨rfl,hb⟩;have HB13:=Za (Zb HB12.out hb);have T13:=Za (T12.below hb (nlr _));have K13:=Za (K12.below hb (nlr _));have O13:=Za (O12.below hb (nlr _));have V13:=Za (V12.below hb (nlr _));clear HB12 hb T12 K12 O12 V12;rw[HQ2.out];clear cK0 cK1 cK2;clear cV0 cV1 cV2 cV3 cV4;obtain⟨cV0,cV1,cV2,cV3,cV4⟩:=V13.c5
  cases q2
  ·go_wp2_with fail
   go_roundw
   case rel=>exact⟨k+1,by omega,by go_num,by rw[HST.out,if_neg (by simp)];exact O13,HB13⟩
   case measure=>simp[intOf];omega
  skip
  go_wp2_with (at_builtin;refine wpList_append_own _ rfl (.tmp 25) (.tmp 27) 24 rfl W0.heap.size 106 i0 (.agg #[.bool false,.int .i64 0,.int .i64 0,.int .i64 0,.int .i64 0]) 5 40 Tryz.underlying24 hi hz0 hz1 hz2 rfl (by decide) _ _ _ rfl (O13.alloc _) ⟨w13.heap.size,0,none⟩ 1 1 (Zv x) rfl rfl ?c1 ?c2 ?c3 ?c4 ?c5 ?_)
  case c1=>intro j q hj;match j,hj with|0,hj=>(simp[Zv]at hj;subst hj;simp[Addr.add])|1,hj=>(simp[Zv]at hj;subst hj;simp[Addr.add])|2,hj=>(simp[Zv]at hj;subst hj;simp[Addr.add])|3,hj=>(simp[Zv]at hj;subst hj;simp[Addr.add])|4,hj=>(simp[Zv]at hj;subst hj;simp[Addr.add])|(j+5),hj=>simp[Zv]at hj
  case c2=>exact Vo x
  case c3=>unfold maxLen;have:=HPL.out;omega
  case c4=>have:=HPL.out;omega
  case c5=>have:=HB13.size;simp;omega
  intro v' w14 hown' hgrow _;have HB14:=Za (((Below.plus HB13.out _).grown hgrow (by have:=HB13.size;simp;omega) (fun g hg=>(World.ownsRow.lt O13.out g hg).1)));have O14:=Za (Xm.more hown');clear hown' hgrow
  go_wp2_with fail
  go_roundw
  case rel=>exact⟨k+1,by omega,by go_num,by rw[HST.out,if_pos (by simp)];exact O14,HB14⟩
  case measure=>simp[intOf];omega
 have hkl:a.lives.take k=a.lives:=List.take_of_length_le (by omega);rw[hkl]at O10;have hlt':¬(k:Int)<(a.lives.length:Int):=by omega
 have k1:=K10.get 1 rfl
 go_wp2_with fail
 clear k1 hkl hlt' hlt L0 T0 K0 T10 K10
 go_loopw [5,33] (fun o i wr=>∃j:Nat,j≤b.lives.length∧i=.int .i64 j∧Hid (Xm 106 5 Zv wr W0.heap.size o (a.lives.filter (zZ b)++(b.lives.take j).filter (comeB a)))∧Hid (Below W0.heap.size W0 wr)) (fun _ i _=>b.lives.length - (intOf i).toNat)
 case atStart=>exact⟨0,Nat.zero_le _,rfl,by simpa using O10,HB10⟩
 clear O10 HB10;obtain⟨j,hj,rfl,O20,HB20⟩:=hrel;obtain⟨w20,rfl⟩:∃w20,w20=wr:=⟨wr,rfl⟩
 by_cases hlt:j<b.lives.length
 ·obtain⟨x,hx⟩:∃x,b.lives[j]? =some x:=⟨_,List.getElem?_eq_getElem hlt⟩;obtain⟨bb,off,rfl,d0,d1,d2,d3,d4⟩:=Va (M0.below HB20.out (nlr _)) hx;have hlt':(j:Int)<(b.lives.length:Int):=by omega
  have HST:=Za (keep_step (comeB a) hx)
  have HPL:Hid ((a.lives.filter (zZ b)++(b.lives.take j).filter (comeB a)).length≤800000000):=by
   unfold Hid;rw[List.length_append];have h1:=keep_len (comeB a) b.lives j;have h2:=List.length_filter_le (zZ b) a.lives;omega
  obtain⟨l0,HL0⟩:∃l0,Hid (a.lives.filter (zZ b)++(b.lives.take j).filter (comeB a)=l0):=⟨_,rfl⟩;rw[HL0.out]at O20 HPL;obtain⟨q1,HQ1⟩:∃q1,Hid (Vy a.clock x.author x.seq=q1):=⟨_,rfl⟩;have HS:Hid (comeB a x= !q1):=by unfold Hid comeB;rw[HQ1.out]
  rw[HS.out]at HST;have S20:=Za (S0.below HB20.out (nlr _));have G20:=Za (G0.below HB20.out (nlr _));clear S0 M0 G0 hx HS
  cases q1
  ·have hnot:(!false)=true:=rfl;have HB21:=Za (Zb HB20.out (bpl w20 (.cells #[.bool x.set,.int .i64 x.key,.int .i64 x.item,.int .i64 x.author,.int .i64 x.seq] 106)));have S21:=Za (S20.below (bpl w20 (.cells #[.bool x.set,.int .i64 x.key,.int .i64 x.item,.int .i64 x.author,.int .i64 x.seq] 106)) (nlr _));have G21:=Za (G20.below (bpl w20 (.cells #[.bool x.set,.int .i64 x.key,.int .i64 x.item,.int .i64 x.author,.int .i64 x.seq] 106)) (nlr _));have O21:=Za (O20.below (bpl w20 (.cells #[.bool x.set,.int .i64 x.key,.int .i64 x.item,.int .i64 x.author,.int .i64 x.seq] 106)) (nlr _));have V21:=Za (Box.new w20 [.bool x.set,.int .i64 x.key,.int .i64 x.item,.int .i64 x.author,.int .i64 x.seq] 106);clear HB20 S20 G20 O20;obtain⟨cG0,cG1,cG2⟩:=G21.c3
   go_wp2_with fail
   refine(isNew_fn x _ a _ S21.out).mono ?_;rintro e w22 ⟨rfl,hb⟩;have HB22:=Za (Zb HB21.out hb);have S22:=Za (S21.below hb (nlr _));have G22:=Za (G21.below hb (nlr _));have O22:=Za (O21.below hb (nlr _));have V22:=Za (V21.below hb (nlr _));clear HB21 hb S21 G21 O21 V21;rw[HQ1.out];clear cG0 cG1 cG2;obtain⟨cV0,cV1,cV2,cV3,cV4⟩:=V22.c5
   go_wp2_with (at_builtin;refine wpList_append_own _ rfl (.tmp 40) (.tmp 42) 24 rfl W0.heap.size 106 i0 (.agg #[.bool false,.int .i64 0,.int .i64 0,.int .i64 0,.int .i64 0]) 5 40 Tryz.underlying24 hi hz0 hz1 hz2 rfl (by decide) _ _ _ rfl (O22.alloc _) ⟨w22.heap.size,0,none⟩ 1 1 (Zv x) rfl rfl ?c1 ?c2 ?c3 ?c4 ?c5 ?_)
   case c1=>intro j q hj;match j,hj with|0,hj=>(simp[Zv]at hj;subst hj;simp[Addr.add])|1,hj=>(simp[Zv]at hj;subst hj;simp[Addr.add])|2,hj=>(simp[Zv]at hj;subst hj;simp[Addr.add])|3,hj=>(simp[Zv]at hj;subst hj;simp[Addr.add])|4,hj=>(simp[Zv]at hj;subst hj;simp[Addr.add])|(j+5),hj=>simp[Zv]at hj
   case c2=>exact Vo x
   case c3=>unfold maxLen;have:=HPL.out;omega
   case c4=>have:=HPL.out;omega
   case c5=>have:=HB22.size;simp;omega
   intro v' w23 hown' hgrow _;have HB23:=Za (((Below.plus HB22.out _).grown hgrow (by have:=HB22.size;simp;omega) (fun g hg=>(World.ownsRow.lt O22.out g hg).1)));have O23:=Za (Xm.more hown');clear hown' hgrow
   go_wp2_with fail
   go_roundw
   case rel=>exact⟨j+1,by omega,by go_num,by rw[HST.out,if_pos (by simp),←List.append_assoc,HL0.out];exact O23,HB23⟩
   case measure=>simp[intOf];omega
  have hnot:(!true)=false:=rfl;have HB21:=Za (Zb HB20.out (bpl w20 (.cells #[.bool x.set,.int .i64 x.key,.int .i64 x.item,.int .i64 x.author,.int .i64 x.seq] 106)));have S21:=Za (S20.below (bpl w20 (.cells #[.bool x.set,.int .i64 x.key,.int .i64 x.item,.int .i64 x.author,.int .i64 x.seq] 106)) (nlr _));have G21:=Za (G20.below (bpl w20 (.cells #[.bool x.set,.int .i64 x.key,.int .i64 x.item,.int .i64 x.author,.int .i64 x.seq] 106)) (nlr _));have O21:=Za (O20.below (bpl w20 (.cells #[.bool x.set,.int .i64 x.key,.int .i64 x.item,.int .i64 x.author,.int .i64 x.seq] 106)) (nlr _));have V21:=Za (Box.new w20 [.bool x.set,.int .i64 x.key,.int .i64 x.item,.int .i64 x.author,.int .i64 x.seq] 106);clear HB20 S20 G20 O20;obtain⟨cG0,cG1,cG2⟩:=G21.c3
  go_wp2_with fail
  refine(isNew_fn x _ a _ S21.out).mono ?_;rintro e w22 ⟨rfl,hb⟩;have HB22:=Za (Zb HB21.out hb);have S22:=Za (S21.below hb (nlr _));have G22:=Za (G21.below hb (nlr _));have O22:=Za (O21.below hb (nlr _));have V22:=Za (V21.below hb (nlr _));clear HB21 hb S21 G21 O21 V21;rw[HQ1.out]
  go_wp2_with fail
  go_roundw
  case rel=>exact⟨j+1,by omega,by go_num,by rw[HST.out,if_neg (by simp),HL0.out];exact O22,HB22⟩
  case measure=>simp[intOf];omega
 have hkl:b.lives.take j=b.lives:=List.take_of_length_le (by omega);rw[hkl]at O20;have hlt':¬(j:Int)<(b.lives.length:Int):=by omega
 have hraw:a.lives.filter (zZ b)++b.lives.filter (comeB a)=zK a b:=rfl;rw[hraw]at O20;clear hraw hkl
 have hbig:(zK a b).length≤4000000000:=by
  unfold zK;rw[List.length_append];have h1:=List.length_filter_le (comeB a) b.lives;have h2:=List.length_filter_le (zZ b) a.lives;omega
 go_wp2_with fail
 refine(sort_live _ (zK a b) _ W0.heap.size O20.out hbig).mono ?_;rintro e w21 ⟨rfl,m,⟨hp,hs⟩,ho,hb⟩;have hm:=perm_sortA ltL_irr ltL_tr hp hs (rawL_pair HOA.out HOB.out);subst hm;have HR:=Za (Zw ho HLE.out);have HB21:=Za (HB0.trans ((HB20.trans hb).mono HLE.out));clear hp hs ho hb hbig
 go_wp2_with fail
 go_ret
 exact⟨_,rfl,HR.out,HB21.out⟩

set_option maxRecDepth 100000 in
set_option maxHeartbeats 1000000 in
theorem fromB_fn(i:Int)(a b:StS)(ga gb:Nat)(a1 a2 a3 b1 b2 b3:Option Addr)(cap1 cap2 cap3 dap1 dap2 dap3:Nat)(w:World)(hga:Box w ga [.slice a1 a.clock.length cap1,.slice a2 a.lives.length cap2,.slice a3 a.tals.length cap3] 27)(hgb:Box w gb [.slice b1 b.clock.length dap1,.slice b2 b.lives.length dap2,.slice b3 b.tals.length dap3] 27)
  (ha:Row w (.slice a1 a.clock.length cap1) a.clock) (hb:Row w (.slice b1 b.clock.length dap1) b.clock) (h0:0≤i) (h1:i<a.clock.length) (h2:i<b.clock.length):
  Calls Tryz.prog 128 #[.int .i64 i,.pointer (some ⟨gb,0,none⟩),.pointer (some ⟨ga,0,none⟩)] w fun e w'=>e=.returned (.bool (Jn a b i))∧Below w.heap.size w w':=by
 have k0:=hga.get 0 rfl;have k1:=hgb.get 0 rfl;obtain⟨k,rfl⟩:∃k:Nat,i=(k:Int):=⟨i.toNat,by omega⟩;have hk1:k<a.clock.length:=by omega
 have hk2:k<b.clock.length:=by omega
 obtain⟨c1,c2,hv,-,-,hc⟩:=ha;simp only[Value.slice.injEq]at hv;obtain⟨rfl,-,rfl⟩:=hv;obtain⟨c1',c2',hv,-,-,hc'⟩:=hb;simp only[Value.slice.injEq]at hv;obtain⟨rfl,-,rfl⟩:=hv;obtain⟨ba,offa,rfl,d1⟩:=hc k hk1;obtain⟨bb,offb,rfl,d2⟩:=hc' k hk2;obtain⟨x,HX⟩:∃x,Hid (a.clock.getD k 0=x):=⟨_,rfl⟩;obtain⟨y,HY⟩:∃y,Hid (b.clock.getD k 0=y):=⟨_,rfl⟩;rw[HX.out]at d1;rw[HY.out]at d2;have HM:Hid (Jn a b (k:Int)=decide (x<y)):=by unfold Hid Jn;rw[Int.toNat_natCast,HX.out,HY.out]
 rw[HM.out];clear hc hc' hga hgb
 go_enter Tryz.func128,Tryz.ntmps128
 have k3:(0:Int)≤(k:Int):=by omega
 go_upto_region 1 with fail
 go_quiet (fail)
 go_wp2_with fail
 go_ret
 exact⟨rfl,Yp (Below.refl _ _) _⟩
set_option maxRecDepth 100000 in
set_option maxHeartbeats 2000000 in
theorem joinTallies_fn(va vb:Value)(a b:StS)(n:Int)(w:World)(ha:Jp w va a)(hb:Jp w vb b)(oa:OkS n a.clock a.lives a.tals)(ob:OkS n b.clock b.lives b.tals):
  Calls Tryz.prog 117 #[va,vb] w fun e w'=>∃v,e=.returned v∧w'.ownsRow w.heap.size 108 3 v (Xr ltT (zJ a b)).length (cellsS Yb (Xr ltT (zJ a b)))∧Below w.heap.size w w':=by
 obtain⟨cv,lv,tv,rfl,hc,hv,ht⟩:=ha;obtain⟨a1,cap1,rfl,-,-,-⟩:=id hc;obtain⟨a2,cap2,rfl,-,-,-⟩:=id hv;obtain⟨a3,cap3,rfl,-,-,-⟩:=id ht;obtain⟨cv',lv',tv',rfl,hc',hv',ht'⟩:=hb;obtain⟨b1,dap1,rfl,-,-,-⟩:=id hc';obtain⟨b2,dap2,rfl,-,-,-⟩:=id hv';obtain⟨b3,dap3,rfl,-,-,-⟩:=id ht';obtain⟨i0,hi,hz0,hz1,hz2⟩:=info_parts Tryz.infoTally;have hbl:=Below.plus (bpl w (.cells #[.slice a1 a.clock.length cap1,.slice a2 a.lives.length cap2,.slice a3 a.tals.length cap3] 27)) (.cells #[.slice b1 b.clock.length dap1,.slice b2 b.lives.length dap2,.slice b3 b.tals.length dap3] 27);have C0:=Za (hc.below hbl (nlr _));have D0:=Za (hc'.below hbl (nlr _));have L0:=Za (ht.below hbl (nlr _));have M0:=Za (ht'.below hbl (nlr _));have G0:=Za ((Box.new w [.slice a1 a.clock.length cap1,.slice a2 a.lives.length cap2,.slice a3 a.tals.length cap3] 27).plus (.cells #[.slice b1 b.clock.length dap1,.slice b2 b.lives.length dap2,.slice b3 b.tals.length dap3] 27));have K0:=Za (Box.new (w.alloc (.cells #[.slice a1 a.clock.length cap1,.slice a2 a.lives.length cap2,.slice a3 a.tals.length cap3] 27)) [.slice b1 b.clock.length dap1,.slice b2 b.lives.length dap2,.slice b3 b.tals.length dap3] 27);rw[World.size_alloc]at K0;have HB0:=Za hbl;have HOA:=Za oa;have HOB:=Za ob;obtain⟨-,fa⟩:=oa.few;obtain⟨-,fb⟩:=ob.few;have hla:(a.clock.length:Int)=n:=(Zm.1 oa.clock).2.2.1;have hlb:(b.clock.length:Int)=n:=(Zm.1 ob.clock).2.2.1;have HLA:=Za hla;have HLB:=Za hlb;clear hc hv ht hc' hv' ht' hbl oa ob hla hlb;obtain⟨W0,HW0⟩:∃W0,Hid ((w.alloc (.cells #[.slice a1 a.clock.length cap1,.slice a2 a.lives.length cap2,.slice a3 a.tals.length cap3] 27)).alloc (.cells #[.slice b1 b.clock.length dap1,.slice b2 b.lives.length dap2,.slice b3 b.tals.length dap3] 27)=W0):=⟨_,rfl⟩;have HLE:Hid (w.heap.size≤W0.heap.size):=by unfold Hid;rw[←HW0.out];simp;omega
 rw[HW0.out]at C0 D0 L0 M0 G0 K0 HB0
 go_enter Tryz.func117,Tryz.ntmps117
 go_wp2_with fail
 rw[HW0.out]
 go_loopw [6,15] (fun o i wr=>∃k:Nat,k≤a.tals.length∧i=.int .i64 k∧Hid (Xm 108 3 Yb wr W0.heap.size o ((a.tals.take k).filter (fun t=> !Jn a b t.author)))∧Hid (Below W0.heap.size W0 wr)) (fun _ i _=>a.tals.length - (intOf i).toNat)
 case atStart=>exact⟨0,Nat.zero_le _,rfl,Xm.nil _ _,Za (Below.refl _ _)⟩
 obtain⟨k,hk,rfl,O10,HB10⟩:=hrel;obtain⟨w10,rfl⟩:∃w10,w10=wr:=⟨wr,rfl⟩
 by_cases hlt:k<a.tals.length
 ·obtain⟨x,hx⟩:∃x,a.tals[k]? =some x:=⟨_,List.getElem?_eq_getElem hlt⟩;obtain⟨hx0,hxn,-⟩:=HOA.tals x (List.mem_of_getElem? hx);have hx1:x.author<(a.clock.length:Int):=by rw[HLA.out];exact hxn
  have hx2:x.author<(b.clock.length:Int):=by rw[HLB.out];exact hxn
  obtain⟨bb,off,hbo,d0,d1,d2⟩:=Jy (L0.below HB10.out (nlr _)) hx;have hlt':(k:Int)<(a.tals.length:Int):=by omega
  have HST:=Za (keep_step (fun t:Tal=> !Jn a b t.author) hx);have HPL:=Za (keep_len (fun t:Tal=> !Jn a b t.author) a.tals k);obtain⟨l0,HL0⟩:∃l0,Hid ((a.tals.take k).filter (fun t=> !Jn a b t.author)=l0):=⟨_,rfl⟩;rw[HL0.out]at O10 HST HPL;obtain⟨q,HQ⟩:∃q,Hid (Jn a b x.author=q):=⟨_,rfl⟩;rw[HQ.out]at HST;have C10:=Za (C0.below HB10.out (nlr _));have D10:=Za (D0.below HB10.out (nlr _));have G10:=Za (G0.below HB10.out (nlr _));have K10:=Za (K0.below HB10.out (nlr _));subst hbo;clear C0 D0 L0 M0 G0 K0 hx
  cases q
  ·have hnot:(!false)=true:=rfl;have HB11:=Za (Zb HB10.out (bpl w10 (.cells #[.int .i64 x.key,.int .i64 x.author,.int .i64 x.sum] 108)));have C11:=Za (C10.below (bpl w10 (.cells #[.int .i64 x.key,.int .i64 x.author,.int .i64 x.sum] 108)) (nlr _));have D11:=Za (D10.below (bpl w10 (.cells #[.int .i64 x.key,.int .i64 x.author,.int .i64 x.sum] 108)) (nlr _));have G11:=Za (G10.below (bpl w10 (.cells #[.int .i64 x.key,.int .i64 x.author,.int .i64 x.sum] 108)) (nlr _));have K11:=Za (K10.below (bpl w10 (.cells #[.int .i64 x.key,.int .i64 x.author,.int .i64 x.sum] 108)) (nlr _));have O11:=Za (O10.below (bpl w10 (.cells #[.int .i64 x.key,.int .i64 x.author,.int .i64 x.sum] 108)) (nlr _));have V11:=Za (Box.new w10 [.int .i64 x.key,.int .i64 x.author,.int .i64 x.sum] 108);clear HB10 C10 D10 G10 K10 O10;obtain⟨cV0,cV1,cV2⟩:=V11.c3
   go_wp2_with fail
   refine(fromB_fn x.author a b _ _ _ _ _ _ _ _ _ _ _ _ _ _ _ G11.out K11.out C11.out D11.out hx0 hx1 hx2).mono ?_;rintro e w12 ⟨rfl,hb⟩;have HB12:=Za (Zb HB11.out hb);have C12:=Za (C11.below hb (nlr _));have D12:=Za (D11.below hb (nlr _));have G12:=Za (G11.below hb (nlr _));have K12:=Za (K11.below hb (nlr _));have O12:=Za (O11.below hb (nlr _));have V12:=Za (V11.below hb (nlr _));clear HB11 hb C11 D11 G11 K11 O11 V11;rw[HQ.out];clear cV0 cV1 cV2;obtain⟨cV0,cV1,cV2⟩:=V12.c3
   go_wp2_with (at_builtin;refine wpList_append_own _ rfl (.tmp 24) (.tmp 26) 25 rfl W0.heap.size 108 i0 (.agg #[.int .i64 0,.int .i64 0,.int .i64 0]) 3 24 Tryz.underlying25 hi hz0 hz1 hz2 rfl (by decide) _ _ _ rfl (O12.alloc _) ⟨w12.heap.size,0,none⟩ 1 1 (Yb x) rfl rfl ?c1 ?c2 ?c3 ?c4 ?c5 ?_)
   case c1=>intro j q hj;match j,hj with|0,hj=>(simp[Yb]at hj;subst hj;simp[Addr.add])|1,hj=>(simp[Yb]at hj;subst hj;simp[Addr.add])|2,hj=>(simp[Yb]at hj;subst hj;simp[Addr.add])|(j+3),hj=>simp[Yb]at hj
   case c2=>exact Jc x
   case c3=>unfold maxLen;have:=HPL.out;omega
   case c4=>have:=HPL.out;omega
   case c5=>have:=HB12.size;simp;omega
   intro v' w13 hown' hgrow _;have HB13:=Za (((Below.plus HB12.out _).grown hgrow (by have:=HB12.size;simp;omega) (fun g hg=>(World.ownsRow.lt O12.out g hg).1)));have O13:=Za (Xm.more hown');clear hown' hgrow
   go_wp2_with fail
   go_roundw
   case rel=>exact⟨k+1,by omega,by go_num,by rw[HST.out,if_pos (by simp)];exact O13,HB13⟩
   case measure=>simp[intOf];omega
  have hnot:(!true)=false:=rfl;have HB11:=Za (Zb HB10.out (bpl w10 (.cells #[.int .i64 x.key,.int .i64 x.author,.int .i64 x.sum] 108)));have C11:=Za (C10.below (bpl w10 (.cells #[.int .i64 x.key,.int .i64 x.author,.int .i64 x.sum] 108)) (nlr _));have D11:=Za (D10.below (bpl w10 (.cells #[.int .i64 x.key,.int .i64 x.author,.int .i64 x.sum] 108)) (nlr _));have G11:=Za (G10.below (bpl w10 (.cells #[.int .i64 x.key,.int .i64 x.author,.int .i64 x.sum] 108)) (nlr _));have K11:=Za (K10.below (bpl w10 (.cells #[.int .i64 x.key,.int .i64 x.author,.int .i64 x.sum] 108)) (nlr _));have O11:=Za (O10.below (bpl w10 (.cells #[.int .i64 x.key,.int .i64 x.author,.int .i64 x.sum] 108)) (nlr _));have V11:=Za (Box.new w10 [.int .i64 x.key,.int .i64 x.author,.int .i64 x.sum] 108);clear HB10 C10 D10 G10 K10 O10;obtain⟨cV0,cV1,cV2⟩:=V11.c3
  go_wp2_with fail
  refine(fromB_fn x.author a b _ _ _ _ _ _ _ _ _ _ _ _ _ _ _ G11.out K11.out C11.out D11.out hx0 hx1 hx2).mono ?_;rintro e w12 ⟨rfl,hb⟩;have HB12:=Za (Zb HB11.out hb);have C12:=Za (C11.below hb (nlr _));have D12:=Za (D11.below hb (nlr _));have G12:=Za (G11.below hb (nlr _));have K12:=Za (K11.below hb (nlr _));have O12:=Za (O11.below hb (nlr _));have V12:=Za (V11.below hb (nlr _));clear HB11 hb C11 D11 G11 K11 O11 V11;rw[HQ.out];clear cV0 cV1 cV2;obtain⟨cV0,cV1,cV2⟩:=V12.c3
  go_wp2_with fail
  go_roundw
  case rel=>exact⟨k+1,by omega,by go_num,by rw[HST.out,if_neg (by simp)];exact O12,HB12⟩
  case measure=>simp[intOf];omega
 have hkl:a.tals.take k=a.tals:=List.take_of_length_le (by omega);rw[hkl]at O10;have hlt':¬(k:Int)<(a.tals.length:Int):=by omega
 have K10:=Za (K0.below HB10.out (nlr _));have k1:=K10.get 2 rfl
 go_wp2_with fail
 clear k1 hkl hlt' hlt L0 K10
 go_loopw [6,32] (fun o i wr=>∃j:Nat,j≤b.tals.length∧i=.int .i64 j∧Hid (Xm 108 3 Yb wr W0.heap.size o (a.tals.filter (fun t=> !Jn a b t.author)++(b.tals.take j).filter (fun t=>Jn a b t.author)))∧Hid (Below W0.heap.size W0 wr)) (fun _ i _=>b.tals.length - (intOf i).toNat)
 case atStart=>exact⟨0,Nat.zero_le _,rfl,by simpa using O10,HB10⟩
 clear O10 HB10;obtain⟨j,hj,rfl,O20,HB20⟩:=hrel;obtain⟨w20,rfl⟩:∃w20,w20=wr:=⟨wr,rfl⟩
 by_cases hlt:j<b.tals.length
 ·obtain⟨x,hx⟩:∃x,b.tals[j]? =some x:=⟨_,List.getElem?_eq_getElem hlt⟩;obtain⟨hx0,hxn,-⟩:=HOB.tals x (List.mem_of_getElem? hx);have hx1:x.author<(a.clock.length:Int):=by rw[HLA.out];exact hxn
  have hx2:x.author<(b.clock.length:Int):=by rw[HLB.out];exact hxn
  obtain⟨bb,off,hbo,d0,d1,d2⟩:=Jy (M0.below HB20.out (nlr _)) hx;have hlt':(j:Int)<(b.tals.length:Int):=by omega
  have HST:=Za (keep_step (fun t:Tal=>Jn a b t.author) hx)
  have HPL:Hid ((a.tals.filter (fun t=> !Jn a b t.author)++(b.tals.take j).filter (fun t=>Jn a b t.author)).length≤800000000):=by
   unfold Hid;rw[List.length_append];have h1:=keep_len (fun t:Tal=>Jn a b t.author) b.tals j;have h2:=List.length_filter_le (fun t:Tal=> !Jn a b t.author) a.tals;omega
  obtain⟨l0,HL0⟩:∃l0,Hid (a.tals.filter (fun t=> !Jn a b t.author)++(b.tals.take j).filter (fun t=>Jn a b t.author)=l0):=⟨_,rfl⟩;rw[HL0.out]at O20 HPL;obtain⟨q,HQ⟩:∃q,Hid (Jn a b x.author=q):=⟨_,rfl⟩;rw[HQ.out]at HST;have C20:=Za (C0.below HB20.out (nlr _));have D20:=Za (D0.below HB20.out (nlr _));have G20:=Za (G0.below HB20.out (nlr _));have K20:=Za (K0.below HB20.out (nlr _));subst hbo;clear C0 D0 M0 G0 K0 hx
  cases q
  ·skip
   have HB21:=Za (Zb HB20.out (bpl w20 (.cells #[.int .i64 x.key,.int .i64 x.author,.int .i64 x.sum] 108)));have C21:=Za (C20.below (bpl w20 (.cells #[.int .i64 x.key,.int .i64 x.author,.int .i64 x.sum] 108)) (nlr _));have D21:=Za (D20.below (bpl w20 (.cells #[.int .i64 x.key,.int .i64 x.author,.int .i64 x.sum] 108)) (nlr _));have G21:=Za (G20.below (bpl w20 (.cells #[.int .i64 x.key,.int .i64 x.author,.int .i64 x.sum] 108)) (nlr _));have K21:=Za (K20.below (bpl w20 (.cells #[.int .i64 x.key,.int .i64 x.author,.int .i64 x.sum] 108)) (nlr _));have O21:=Za (O20.below (bpl w20 (.cells #[.int .i64 x.key,.int .i64 x.author,.int .i64 x.sum] 108)) (nlr _));have V21:=Za (Box.new w20 [.int .i64 x.key,.int .i64 x.author,.int .i64 x.sum] 108);clear HB20 C20 D20 G20 K20 O20;obtain⟨cV0,cV1,cV2⟩:=V21.c3
   go_wp2_with fail
   refine(fromB_fn x.author a b _ _ _ _ _ _ _ _ _ _ _ _ _ _ _ G21.out K21.out C21.out D21.out hx0 hx1 hx2).mono ?_;rintro e w22 ⟨rfl,hb⟩;have HB22:=Za (Zb HB21.out hb);have C22:=Za (C21.below hb (nlr _));have D22:=Za (D21.below hb (nlr _));have G22:=Za (G21.below hb (nlr _));have K22:=Za (K21.below hb (nlr _));have O22:=Za (O21.below hb (nlr _));have V22:=Za (V21.below hb (nlr _));clear HB21 hb C21 D21 G21 K21 O21 V21;rw[HQ.out];clear cV0 cV1 cV2;obtain⟨cV0,cV1,cV2⟩:=V22.c3
   go_wp2_with fail
   go_roundw
   case rel=>exact⟨j+1,by omega,by go_num,by rw[HST.out,if_neg (by simp),HL0.out];exact O22,HB22⟩
   case measure=>simp[intOf];omega
  skip
  have HB21:=Za (Zb HB20.out (bpl w20 (.cells #[.int .i64 x.key,.int .i64 x.author,.int .i64 x.sum] 108)));have C21:=Za (C20.below (bpl w20 (.cells #[.int .i64 x.key,.int .i64 x.author,.int .i64 x.sum] 108)) (nlr _));have D21:=Za (D20.below (bpl w20 (.cells #[.int .i64 x.key,.int .i64 x.author,.int .i64 x.sum] 108)) (nlr _));have G21:=Za (G20.below (bpl w20 (.cells #[.int .i64 x.key,.int .i64 x.author,.int .i64 x.sum] 108)) (nlr _));have K21:=Za (K20.below (bpl w20 (.cells #[.int .i64 x.key,.int .i64 x.author,.int .i64 x.sum] 108)) (nlr _));have O21:=Za (O20.below (bpl w20 (.cells #[.int .i64 x.key,.int .i64 x.author,.int .i64 x.sum] 108)) (nlr _));have V21:=Za (Box.new w20 [.int .i64 x.key,.int .i64 x.author,.int .i64 x.sum] 108);clear HB20 C20 D20 G20 K20 O20;obtain⟨cV0,cV1,cV2⟩:=V21.c3
  go_wp2_with fail
  refine(fromB_fn x.author a b _ _ _ _ _ _ _ _ _ _ _ _ _ _ _ G21.out K21.out C21.out D21.out hx0 hx1 hx2).mono ?_;rintro e w22 ⟨rfl,hb⟩;have HB22:=Za (Zb HB21.out hb);have C22:=Za (C21.below hb (nlr _));have D22:=Za (D21.below hb (nlr _));have G22:=Za (G21.below hb (nlr _));have K22:=Za (K21.below hb (nlr _));have O22:=Za (O21.below hb (nlr _));have V22:=Za (V21.below hb (nlr _));clear HB21 hb C21 D21 G21 K21 O21 V21;rw[HQ.out];clear cV0 cV1 cV2;obtain⟨cV0,cV1,cV2⟩:=V22.c3
  go_wp2_with (at_builtin;refine wpList_append_own _ rfl (.tmp 40) (.tmp 42) 25 rfl W0.heap.size 108 i0 (.agg #[.int .i64 0,.int .i64 0,.int .i64 0]) 3 24 Tryz.underlying25 hi hz0 hz1 hz2 rfl (by decide) _ _ _ rfl (O22.alloc _) ⟨w22.heap.size,0,none⟩ 1 1 (Yb x) rfl rfl ?c1 ?c2 ?c3 ?c4 ?c5 ?_)
  case c1=>intro j q hj;match j,hj with|0,hj=>(simp[Yb]at hj;subst hj;simp[Addr.add])|1,hj=>(simp[Yb]at hj;subst hj;simp[Addr.add])|2,hj=>(simp[Yb]at hj;subst hj;simp[Addr.add])|(j+3),hj=>simp[Yb]at hj
  case c2=>exact Jc x
  case c3=>unfold maxLen;have:=HPL.out;omega
  case c4=>have:=HPL.out;omega
  case c5=>have:=HB22.size;simp;omega
  intro v' w23 hown' hgrow _;have HB23:=Za (((Below.plus HB22.out _).grown hgrow (by have:=HB22.size;simp;omega) (fun g hg=>(World.ownsRow.lt O22.out g hg).1)));have O23:=Za (Xm.more hown');clear hown' hgrow
  go_wp2_with fail
  go_roundw
  case rel=>exact⟨j+1,by omega,by go_num,by rw[HST.out,if_pos (by simp),←List.append_assoc,HL0.out];exact O23,HB23⟩
  case measure=>simp[intOf];omega
 have hkl:b.tals.take j=b.tals:=List.take_of_length_le (by omega);rw[hkl]at O20;have hlt':¬(j:Int)<(b.tals.length:Int):=by omega
 have hraw:a.tals.filter (fun t=> !Jn a b t.author)++b.tals.filter (fun t=>Jn a b t.author)=zJ a b:=rfl;rw[hraw]at O20;clear hraw hkl
 have hbig:(zJ a b).length≤4000000000:=by
  unfold zJ;rw[List.length_append];have h1:=List.length_filter_le (fun t:Tal=>Jn a b t.author) b.tals;have h2:=List.length_filter_le (fun t:Tal=> !Jn a b t.author) a.tals;omega
 go_wp2_with fail
 refine(sort_tally _ (zJ a b) _ W0.heap.size O20.out hbig).mono ?_;rintro e w21 ⟨rfl,m,⟨hp,hs⟩,ho,hb⟩;have hm:=perm_sortA ltT_irr ltT_tr hp hs (rawT_pair HOA.out HOB.out);subst hm;have HR:=Za (Zw ho HLE.out);have HB21:=Za (HB0.trans ((HB20.trans hb).mono HLE.out));clear hp hs ho hb hbig
 go_wp2_with fail
 go_ret
 exact⟨_,rfl,HR.out,HB21.out⟩

set_option maxRecDepth 100000 in
set_option maxHeartbeats 2000000 in
theorem join_state(va vb:Value)(a b:StS)(w:World)(ha:Jp w va a)(hb:Jp w vb b):
  Calls Tryz.prog 91 #[va,vb] w fun e w'=>∃rv,e=.returned (.tuple #[rv,.int .i64 (xA a b)])∧Yl w' (w.heap.size+3) rv (joinX a b)∧Below w.heap.size w w':=by
 have hain:=ha;have hbin:=hb;obtain⟨cv,lv,tv,rfl,hc,hv,ht⟩:=ha;obtain⟨a1,cap1,rfl,-,-,-⟩:=id hc;obtain⟨a2,cap2,rfl,-,-,-⟩:=id hv;obtain⟨a3,cap3,rfl,-,-,-⟩:=id ht;obtain⟨cv',lv',tv',rfl,hc',hv',ht'⟩:=hb;obtain⟨b1,dap1,rfl,-,-,-⟩:=id hc';obtain⟨b2,dap2,rfl,-,-,-⟩:=id hv';obtain⟨b3,dap3,rfl,-,-,-⟩:=id ht';have hbl:=Below.plus (Below.plus (Below.plus (bpl w (.cells #[.slice a1 a.clock.length cap1,.slice a2 a.lives.length cap2,.slice a3 a.tals.length cap3] 27)) (.cells #[.slice b1 b.clock.length dap1,.slice b2 b.lives.length dap2,.slice b3 b.tals.length dap3] 27)) (.cells #[.slice none 0 0,.slice none 0 0,.slice none 0 0] 27)) (.cells #[.slice a1 a.clock.length cap1,.slice a2 a.lives.length cap2,.slice a3 a.tals.length cap3,.slice b1 b.clock.length dap1,.slice b2 b.lives.length dap2,.slice b3 b.tals.length dap3] 27);have S0:=Za (hain.below hbl (nlr _));have T0:=Za (hbin.below hbl (nlr _));have C0:=Za (hc.below hbl (nlr _));have D0:=Za (hc'.below hbl (nlr _));have G0:=Za ((((Box.new w [.slice a1 a.clock.length cap1,.slice a2 a.lives.length cap2,.slice a3 a.tals.length cap3] 27).plus (.cells #[.slice b1 b.clock.length dap1,.slice b2 b.lives.length dap2,.slice b3 b.tals.length dap3] 27)).plus (.cells #[.slice none 0 0,.slice none 0 0,.slice none 0 0] 27)).plus (.cells #[.slice a1 a.clock.length cap1,.slice a2 a.lives.length cap2,.slice a3 a.tals.length cap3,.slice b1 b.clock.length dap1,.slice b2 b.lives.length dap2,.slice b3 b.tals.length dap3] 27));have K0:=Za (((Box.new (w.alloc (.cells #[.slice a1 a.clock.length cap1,.slice a2 a.lives.length cap2,.slice a3 a.tals.length cap3] 27)) [.slice b1 b.clock.length dap1,.slice b2 b.lives.length dap2,.slice b3 b.tals.length dap3] 27).plus (.cells #[.slice none 0 0,.slice none 0 0,.slice none 0 0] 27)).plus (.cells #[.slice a1 a.clock.length cap1,.slice a2 a.lives.length cap2,.slice a3 a.tals.length cap3,.slice b1 b.clock.length dap1,.slice b2 b.lives.length dap2,.slice b3 b.tals.length dap3] 27));have R0:=Za ((Box.new ((w.alloc (.cells #[.slice a1 a.clock.length cap1,.slice a2 a.lives.length cap2,.slice a3 a.tals.length cap3] 27)).alloc (.cells #[.slice b1 b.clock.length dap1,.slice b2 b.lives.length dap2,.slice b3 b.tals.length dap3] 27)) [.slice none 0 0,.slice none 0 0,.slice none 0 0] 27).plus (.cells #[.slice a1 a.clock.length cap1,.slice a2 a.lives.length cap2,.slice a3 a.tals.length cap3,.slice b1 b.clock.length dap1,.slice b2 b.lives.length dap2,.slice b3 b.tals.length dap3] 27));have Z0:=Za (Box.new (((w.alloc (.cells #[.slice a1 a.clock.length cap1,.slice a2 a.lives.length cap2,.slice a3 a.tals.length cap3] 27)).alloc (.cells #[.slice b1 b.clock.length dap1,.slice b2 b.lives.length dap2,.slice b3 b.tals.length dap3] 27)).alloc (.cells #[.slice none 0 0,.slice none 0 0,.slice none 0 0] 27)) [.slice a1 a.clock.length cap1,.slice a2 a.lives.length cap2,.slice a3 a.tals.length cap3,.slice b1 b.clock.length dap1,.slice b2 b.lives.length dap2,.slice b3 b.tals.length dap3] 27);simp only[World.size_alloc]at K0 R0 Z0;have HB0:=Za hbl;clear hain hbin hc hv ht hc' hv' ht' hbl;obtain⟨W1,HW1⟩:∃W1,Hid (((((w.alloc (.cells #[.slice a1 a.clock.length cap1,.slice a2 a.lives.length cap2,.slice a3 a.tals.length cap3] 27)).alloc (.cells #[.slice b1 b.clock.length dap1,.slice b2 b.lives.length dap2,.slice b3 b.tals.length dap3] 27)).alloc (.cells #[.slice none 0 0,.slice none 0 0,.slice none 0 0] 27)).alloc (.cells #[.slice a1 a.clock.length cap1,.slice a2 a.lives.length cap2,.slice a3 a.tals.length cap3,.slice b1 b.clock.length dap1,.slice b2 b.lives.length dap2,.slice b3 b.tals.length dap3] 27))=W1):=⟨_,rfl⟩;rw[HW1.out]at S0 T0 C0 D0 G0 K0 R0 Z0 HB0;obtain⟨E1,HE1⟩:∃E1,Hid (stE a a.clock.length=E1):=⟨_,rfl⟩;obtain⟨E2,HE2⟩:∃E2,Hid (stE b a.clock.length=E2):=⟨_,rfl⟩;obtain⟨A1,HA1⟩:∃A1,Hid (stA a a.clock.length=A1):=⟨_,rfl⟩;obtain⟨A2,HA2⟩:∃A2,Hid (stA b a.clock.length=A2):=⟨_,rfl⟩;obtain⟨E,HE⟩:∃E,Hid (xA a b=E):=⟨_,rfl⟩;obtain⟨X,HX⟩:∃X,Hid (joinX a b=X):=⟨_,rfl⟩;have HEE:Hid (E=if E1≠0 then E1 else E2):=by unfold Hid;rw[←HE.out,←HE1.out,←HE2.out];rfl
 rw[HE.out,HX.out];have HXB:Hid (¬E=0→X=⟨[],[],[]⟩):=fun h=>by rw[←HX.out];exact joinX_bad (by rw[HE.out];exact h)
 go_enter Tryz.func91,Tryz.ntmps91
 go_wp2_with fail
 rw[HW1.out]
 go_loopw [17] (fun i wr=>∃q:Int,(q=0∨q=1∨q=2)∧i=.int .i64 q∧Hid (1≤q→E1=0)∧Hid (2≤q→E2=0)∧Hid (Below W1.heap.size W1 wr)) (fun i _=>2 - (intOf i).toNat)
 case atStart=>exact⟨0,.inl rfl,rfl,Za (fun h=>by omega),Za (fun h=>by omega),Za (Below.refl _ _)⟩
 obtain⟨q,hq,rfl,HQ1,HQ2,HB20⟩:=hrel;obtain⟨w20,rfl⟩:∃w20,w20=wr:=⟨wr,rfl⟩;have S20:=Za (S0.below HB20.out (nlr _));have T20:=Za (T0.below HB20.out (nlr _));have C20:=Za (C0.below HB20.out (nlr _));have D20:=Za (D0.below HB20.out (nlr _));have G20:=Za (G0.below HB20.out (nlr _));have K20:=Za (K0.below HB20.out (nlr _));have R20:=Za (R0.below HB20.out (nlr _));have Z20:=Za (Z0.below HB20.out (nlr _));clear S0 T0 C0 D0 G0 K0 R0 Z0;have hrl:=R20.lt
 rcases hq with rfl|rfl|rfl
 ·have z0:=Z20.get 0 rfl;have z1:=Z20.get 1 rfl;have z2:=Z20.get 2 rfl
  by_cases hE:E1=0
  ·have hE':(E1 != 0)=false:=by simp[hE]
   have HEZ:=Za hE;clear hE;have HB21:=Za (Zb HB20.out (bpl w20 (.cells #[.slice a1 a.clock.length cap1,.slice a2 a.lives.length cap2,.slice a3 a.tals.length cap3] 27)));have S21:=Za (S20.below (bpl w20 (.cells #[.slice a1 a.clock.length cap1,.slice a2 a.lives.length cap2,.slice a3 a.tals.length cap3] 27)) (nlr _));have T21:=Za (T20.below (bpl w20 (.cells #[.slice a1 a.clock.length cap1,.slice a2 a.lives.length cap2,.slice a3 a.tals.length cap3] 27)) (nlr _));have V21:=Za (Box.new w20 [.slice a1 a.clock.length cap1,.slice a2 a.lives.length cap2,.slice a3 a.tals.length cap3] 27);clear HB20 S20 T20
   go_wp2_with fail
   refine(Xg _ a a.clock.length _ S21.out).mono ?_;rintro e w22 ⟨rfl,hb⟩;have HB22:=Za (Zb HB21.out hb);have S22:=Za (S21.below hb (nlr _));have T22:=Za (T21.below hb (nlr _));have V22:=Za (V21.below hb (nlr _));clear HB21 hb S21 T21 V21;rw[HE1.out,HA1.out];have HB23:=Za (Zb HB22.out (bpl w22 (.cells #[.int .i64 E1,.int .i64 A1] 65)));have S23:=Za (S22.below (bpl w22 (.cells #[.int .i64 E1,.int .i64 A1] 65)) (nlr _));have T23:=Za (T22.below (bpl w22 (.cells #[.int .i64 E1,.int .i64 A1] 65)) (nlr _));have V23:=Za (V22.below (bpl w22 (.cells #[.int .i64 E1,.int .i64 A1] 65)) (nlr _));have F23:=Za (Box.new w22 [.int .i64 E1,.int .i64 A1] 65);clear HB22 S22 T22 V22
   go_wp2_with fail
   go_roundw
   case rel=>exact⟨1,.inr (.inl rfl),by go_num,Za (fun _=>HEZ.out),Za (fun h=>by omega),HB23.out⟩
   case measure=>simp[intOf]
  have hE':(E1 != 0)=true:=by simp[hE]
  have hEX:E=E1:=by rw[HEE.out];rw[if_pos hE]
  have hXX:X=⟨[],[],[]⟩:=HXB.out (by rw[hEX];exact hE);subst hXX;subst hEX;clear hE HEE HXB;have HB21:=Za (Zb HB20.out (bpl w20 (.cells #[.slice a1 a.clock.length cap1,.slice a2 a.lives.length cap2,.slice a3 a.tals.length cap3] 27)));have S21:=Za (S20.below (bpl w20 (.cells #[.slice a1 a.clock.length cap1,.slice a2 a.lives.length cap2,.slice a3 a.tals.length cap3] 27)) (nlr _));have T21:=Za (T20.below (bpl w20 (.cells #[.slice a1 a.clock.length cap1,.slice a2 a.lives.length cap2,.slice a3 a.tals.length cap3] 27)) (nlr _));have R21:=Za (R20.below (bpl w20 (.cells #[.slice a1 a.clock.length cap1,.slice a2 a.lives.length cap2,.slice a3 a.tals.length cap3] 27)) (nlr _));have V21:=Za (Box.new w20 [.slice a1 a.clock.length cap1,.slice a2 a.lives.length cap2,.slice a3 a.tals.length cap3] 27);clear HB20 S20 T20 R20
  go_wp2_with fail
  refine(Xg _ a a.clock.length _ S21.out).mono ?_;rintro e w22 ⟨rfl,hb⟩;have HB22:=Za (Zb HB21.out hb);have S22:=Za (S21.below hb (nlr _));have T22:=Za (T21.below hb (nlr _));have R22:=Za (R21.below hb (nlr _));have V22:=Za (V21.below hb (nlr _));clear HB21 hb S21 T21 R21 V21;rw[HE1.out,HA1.out];have n1:¬(w22.heap.size=w.heap.size+1+1):=by have:=R22.lt;omega
  have n2:¬(w.heap.size+1+1=w22.heap.size):=by have:=R22.lt;omega
  have HB23:=Za (Zb HB22.out (bpl w22 (.cells #[.int .i64 E,.int .i64 A1] 65)));have S23:=Za (S22.below (bpl w22 (.cells #[.int .i64 E,.int .i64 A1] 65)) (nlr _));have T23:=Za (T22.below (bpl w22 (.cells #[.int .i64 E,.int .i64 A1] 65)) (nlr _));have R23:=Za (R22.below (bpl w22 (.cells #[.int .i64 E,.int .i64 A1] 65)) (nlr _));have V23:=Za (V22.below (bpl w22 (.cells #[.int .i64 E,.int .i64 A1] 65)) (nlr _));have F23:=Za (Box.new w22 [.int .i64 E,.int .i64 A1] 65);clear HB22 S22 T22 R22 V22;obtain⟨cF0,cF1⟩:=F23.c2;obtain⟨cR0,cR1,cR2⟩:=R23.c3;have f0:=R23.free 0;have f1:=R23.free 1;have f2:=R23.free 2
  go_upto_region 7 with fail
  go_region
  go_wp2_with fail
  have hR:=((R23.set 0 (.slice none 0 0)).set 1 (.slice none 0 0)).set 2 (.slice none 0 0);refine bodyPost_ret (Zc rfl _ _ (w.heap.size+1+1) 27 _ (0,0) _ rfl hR.drew Tryz.underlying27 rfl Tryz.sizeState) rfl ⟨_,rfl,Yl.none _ _,?_⟩
  exact(((HB0.trans (HB23.mono HB0.size)).setCell (by show w.heap.size≤w.heap.size+1+1;omega) _).setCell (by show w.heap.size≤w.heap.size+1+1;omega) _ |>.setCell (by show w.heap.size≤w.heap.size+1+1;omega) _).drew
 ·have z0:=Z20.get 3 rfl;have z1:=Z20.get 4 rfl;have z2:=Z20.get 5 rfl
  by_cases hE:E2=0
  ·have hE':(E2 != 0)=false:=by simp[hE]
   have HEZ:=Za hE;clear hE;have HB21:=Za (Zb HB20.out (bpl w20 (.cells #[.slice b1 b.clock.length dap1,.slice b2 b.lives.length dap2,.slice b3 b.tals.length dap3] 27)));have S21:=Za (S20.below (bpl w20 (.cells #[.slice b1 b.clock.length dap1,.slice b2 b.lives.length dap2,.slice b3 b.tals.length dap3] 27)) (nlr _));have T21:=Za (T20.below (bpl w20 (.cells #[.slice b1 b.clock.length dap1,.slice b2 b.lives.length dap2,.slice b3 b.tals.length dap3] 27)) (nlr _));have V21:=Za (Box.new w20 [.slice b1 b.clock.length dap1,.slice b2 b.lives.length dap2,.slice b3 b.tals.length dap3] 27);clear HB20 S20 T20
   go_wp2_with fail
   refine(Xg _ b a.clock.length _ T21.out).mono ?_;rintro e w22 ⟨rfl,hb⟩;have HB22:=Za (Zb HB21.out hb);have S22:=Za (S21.below hb (nlr _));have T22:=Za (T21.below hb (nlr _));have V22:=Za (V21.below hb (nlr _));clear HB21 hb S21 T21 V21;rw[HE2.out,HA2.out];have HB23:=Za (Zb HB22.out (bpl w22 (.cells #[.int .i64 E2,.int .i64 A2] 65)));have S23:=Za (S22.below (bpl w22 (.cells #[.int .i64 E2,.int .i64 A2] 65)) (nlr _));have T23:=Za (T22.below (bpl w22 (.cells #[.int .i64 E2,.int .i64 A2] 65)) (nlr _));have V23:=Za (V22.below (bpl w22 (.cells #[.int .i64 E2,.int .i64 A2] 65)) (nlr _));have F23:=Za (Box.new w22 [.int .i64 E2,.int .i64 A2] 65);clear HB22 S22 T22 V22
   go_wp2_with fail
   go_roundw
   case rel=>exact⟨2,.inr (.inr rfl),by go_num,Za (fun _=>HQ1.out (by omega)),Za (fun _=>HEZ.out),HB23.out⟩
   case measure=>simp[intOf]
  have hE':(E2 != 0)=true:=by simp[hE]
  have hEX:E=E2:=by rw[HEE.out];rw[if_neg (by rw[HQ1.out (by omega)];simp)]
  have hXX:X=⟨[],[],[]⟩:=HXB.out (by rw[hEX];exact hE);subst hXX;subst hEX;clear hE HEE HXB;have HB21:=Za (Zb HB20.out (bpl w20 (.cells #[.slice b1 b.clock.length dap1,.slice b2 b.lives.length dap2,.slice b3 b.tals.length dap3] 27)));have S21:=Za (S20.below (bpl w20 (.cells #[.slice b1 b.clock.length dap1,.slice b2 b.lives.length dap2,.slice b3 b.tals.length dap3] 27)) (nlr _));have T21:=Za (T20.below (bpl w20 (.cells #[.slice b1 b.clock.length dap1,.slice b2 b.lives.length dap2,.slice b3 b.tals.length dap3] 27)) (nlr _));have R21:=Za (R20.below (bpl w20 (.cells #[.slice b1 b.clock.length dap1,.slice b2 b.lives.length dap2,.slice b3 b.tals.length dap3] 27)) (nlr _));have V21:=Za (Box.new w20 [.slice b1 b.clock.length dap1,.slice b2 b.lives.length dap2,.slice b3 b.tals.length dap3] 27);clear HB20 S20 T20 R20
  go_wp2_with fail
  refine(Xg _ b a.clock.length _ T21.out).mono ?_;rintro e w22 ⟨rfl,hb⟩;have HB22:=Za (Zb HB21.out hb);have S22:=Za (S21.below hb (nlr _));have T22:=Za (T21.below hb (nlr _));have R22:=Za (R21.below hb (nlr _));have V22:=Za (V21.below hb (nlr _));clear HB21 hb S21 T21 R21 V21;rw[HE2.out,HA2.out];have n1:¬(w22.heap.size=w.heap.size+1+1):=by have:=R22.lt;omega
  have n2:¬(w.heap.size+1+1=w22.heap.size):=by have:=R22.lt;omega
  have HB23:=Za (Zb HB22.out (bpl w22 (.cells #[.int .i64 E,.int .i64 A2] 65)));have S23:=Za (S22.below (bpl w22 (.cells #[.int .i64 E,.int .i64 A2] 65)) (nlr _));have T23:=Za (T22.below (bpl w22 (.cells #[.int .i64 E,.int .i64 A2] 65)) (nlr _));have R23:=Za (R22.below (bpl w22 (.cells #[.int .i64 E,.int .i64 A2] 65)) (nlr _));have V23:=Za (V22.below (bpl w22 (.cells #[.int .i64 E,.int .i64 A2] 65)) (nlr _));have F23:=Za (Box.new w22 [.int .i64 E,.int .i64 A2] 65);clear HB22 S22 T22 R22 V22;obtain⟨cF0,cF1⟩:=F23.c2;obtain⟨cR0,cR1,cR2⟩:=R23.c3;have f0:=R23.free 0;have f1:=R23.free 1;have f2:=R23.free 2
  go_upto_region 7 with fail
  go_region
  go_wp2_with fail
  have hR:=((R23.set 0 (.slice none 0 0)).set 1 (.slice none 0 0)).set 2 (.slice none 0 0);refine bodyPost_ret (Zc rfl _ _ (w.heap.size+1+1) 27 _ (0,0) _ rfl hR.drew Tryz.underlying27 rfl Tryz.sizeState) rfl ⟨_,rfl,Yl.none _ _,?_⟩
  exact(((HB0.trans (HB23.mono HB0.size)).setCell (by show w.heap.size≤w.heap.size+1+1;omega) _).setCell (by show w.heap.size≤w.heap.size+1+1;omega) _ |>.setCell (by show w.heap.size≤w.heap.size+1+1;omega) _).drew
 have hz1:E1=0:=HQ1.out (by omega);have hz2:E2=0:=HQ2.out (by omega);subst hz1 hz2;have hE0:E=0:=by rw[HEE.out];simp
 subst hE0;have oa:=Qw.1 HE1.out;have ob:=Qw.1 HE2.out;have HOA:=Za oa;have HOB:=Za ob;have HXX:Hid (X=⟨joinC a.clock b.clock,Xr ltL (zK a b),Xr ltT (zJ a b)⟩):=by unfold Hid;rw[←HX.out];exact joinX_zero HE.out
 have hla:Hid (a.clock.length*8≤140737488351232):=by have:=Zm.1 oa.clock;unfold Hid;omega
 have hlb:Hid (b.clock.length*8≤140737488351232):=by have:=Zm.1 ob.clock;unfold Hid;omega
 clear oa ob HEE HXB HQ1 HQ2 Z20;have HK:Hid (∀w',Zh w20 w'→w'.cell? ⟨w.heap.size,0,none⟩=some (.slice a1 a.clock.length cap1)∧w'.cell? ⟨w.heap.size,1,none⟩=some (.slice a2 a.lives.length cap2)∧w'.cell? ⟨w.heap.size,2,none⟩=some (.slice a3 a.tals.length cap3)∧w'.cell? ⟨w.heap.size+1,0,none⟩=some (.slice b1 b.clock.length dap1)∧w'.cell? ⟨w.heap.size+1,1,none⟩=some (.slice b2 b.lives.length dap2)∧w'.cell? ⟨w.heap.size+1,2,none⟩=some (.slice b3 b.tals.length dap3)):=fun w' hg=>⟨(G20.below hg (nlr _)).get 0 rfl,(G20.below hg (nlr _)).get 1 rfl,(G20.below hg (nlr _)).get 2 rfl,(K20.below hg (nlr _)).get 0 rfl,(K20.below hg (nlr _)).get 1 rfl,(K20.below hg (nlr _)).get 2 rfl⟩
 go_upto_region 9 with fail
 refine wp_region_held_drew (S:=fun w'=>w'.cell? ⟨w.heap.size,0,none⟩=some (.slice a1 a.clock.length cap1)∧w'.cell? ⟨w.heap.size,1,none⟩=some (.slice a2 a.lives.length cap2)∧w'.cell? ⟨w.heap.size,2,none⟩=some (.slice a3 a.tals.length cap3)∧w'.cell? ⟨w.heap.size+1,0,none⟩=some (.slice b1 b.clock.length dap1)∧w'.cell? ⟨w.heap.size+1,1,none⟩=some (.slice b2 b.lives.length dap2)∧w'.cell? ⟨w.heap.size+1,2,none⟩=some (.slice b3 b.tals.length dap3)) (by kernel_rfl) (HK.out _ (Zf (Zi _))) (fun hHeld=>?_);refine ty 0 (.pointer (some ⟨w.heap.size,0,none⟩)) ?_;refine ty 1 (.slice a1 a.clock.length cap1) ?_;refine ty 2 (.pointer (some ⟨w.heap.size+1,0,none⟩)) ?_;refine ty 3 (.slice b1 b.clock.length dap1) ?_;refine ty 5 (.agg #[.slice a1 a.clock.length cap1,.slice a2 a.lives.length cap2,.slice a3 a.tals.length cap3]) ?_;refine ty 6 (.agg #[.slice b1 b.clock.length dap1,.slice b2 b.lives.length dap2,.slice b3 b.tals.length dap3]) ?_;refine ty 8 (.agg #[.slice a1 a.clock.length cap1,.slice a2 a.lives.length cap2,.slice a3 a.tals.length cap3]) ?_;refine ty 9 (.agg #[.slice b1 b.clock.length dap1,.slice b2 b.lives.length dap2,.slice b3 b.tals.length dap3]) ?_;refine wr 4 fun K hK=>?_;go_simp;refine(join_clock _ _ a.clock b.clock _ (C20.below (Zf (Zi w20)) (nlr _)) (D20.below (Zf (Zi w20)) (nlr _)) hla.out hlb.out).mono ?_;rintro e w4 ⟨v4,rfl,hc4,hb4⟩;have hgr4:Zh w20 w4:=Zd (Zf (Zi w20)) hb4;obtain⟨x4,y4,hx4,-⟩:=hc4.row;subst hx4;refine hK.out _ _ (HK.out _ hgr4) (fun hHeld2=>?_);clear hK K hHeld hb4
 try simp only[Act.put,Zt,Zs,Zr]
 refine wr 7 fun K hK=>?_;go_simp;refine(joinLives_fn _ _ a b _ _ (S20.below hgr4 (nlr _)) (T20.below hgr4 (nlr _)) HOA.out HOB.out).mono ?_;rintro e w5 ⟨v5,rfl,hc5,hb5⟩;have hgr5:Zh w20 w5:=Zd hgr4 hb5;have hc4':=hc4.below hb5 (nlr _);obtain⟨x5,y5,hx5,-⟩:=Zl Ze hc5;subst hx5;refine hK.out _ _ (HK.out _ hgr5) (fun hHeld3=>?_);clear hK K hHeld2 hb5 hc4
 try simp only[Act.put,Zt,Zs,Zr]
 refine wr 10 fun K hK=>?_;go_simp;refine(joinTallies_fn _ _ a b _ _ (S20.below hgr5 (nlr _)) (T20.below hgr5 (nlr _)) HOA.out HOB.out).mono ?_;rintro e w6 ⟨v6,rfl,hc6,hb6⟩;have hgr6:Zh w20 w6:=Zd hgr5 hb6;have hc4'':=hc4'.below hb6 (nlr _);have hc5':=Zp hc5 hb6 (nlr _);obtain⟨x6,y6,hx6,-⟩:=Zl Zg hc6;subst hx6;refine hK.out _ _ (HK.out _ hgr6) (fun hHeld4=>?_);clear hK K hHeld3 hb6 hc4' hc5
 try simp only[Act.put,Zt,Zs,Zr]
 refine ty 11 (.agg #[.slice x4 (joinC a.clock b.clock).length y4,.slice x5 (Xr ltL (zK a b)).length y5,.slice x6 (Xr ltT (zJ a b)).length y6]) ?_;have R6:=Za (R20.below hgr6 (nlr _))
 have HV:Hid (Yl w6 (w.heap.size+3) (.agg #[.slice x4 (joinC a.clock b.clock).length y4,.slice x5 (Xr ltL (zK a b)).length y5,.slice x6 (Xr ltT (zJ a b)).length y6]) X):=by
  have h4:=hgr4.size;have h5:=hgr5.size;rw[HXX.out];exact⟨_,_,_,rfl,hc4''.mono (by show w.heap.size+3≤w20.drew.heap.size;show w.heap.size+3≤w20.heap.size;omega),Zw hc5' (by omega),Zw hc6 (by omega)⟩
 have HB6:=Za (HB0.trans ((Zb HB20.out hgr6).mono HB0.size));clear hc4'' hc5' hc6;obtain⟨c0,c1,c2⟩:=R6.c3;have f0:=R6.free 0;have f1:=R6.free 1;have f2:=R6.free 2;refine wr 12 fun K hK=>?_;go_simp;have hRs:=((R6.set 0 (.slice x4 (joinC a.clock b.clock).length y4)).set 1 (.slice x5 (Xr ltL (zK a b)).length y5)).set 2 (.slice x6 (Xr ltT (zJ a b)).length y6);have hGs:=(((G20.below hgr6 (nlr _)).away (g':=w.heap.size+1+1) (i:=0) (v:=.slice x4 (joinC a.clock b.clock).length y4) (by omega)).away (g':=w.heap.size+1+1) (i:=1) (v:=.slice x5 (Xr ltL (zK a b)).length y5) (by omega)).away (g':=w.heap.size+1+1) (i:=2) (v:=.slice x6 (Xr ltT (zJ a b)).length y6) (by omega);have hKs:=(((K20.below hgr6 (nlr _)).away (g':=w.heap.size+1+1) (i:=0) (v:=.slice x4 (joinC a.clock b.clock).length y4) (by omega)).away (g':=w.heap.size+1+1) (i:=1) (v:=.slice x5 (Xr ltL (zK a b)).length y5) (by omega)).away (g':=w.heap.size+1+1) (i:=2) (v:=.slice x6 (Xr ltT (zJ a b)).length y6) (by omega);have hVs:=((HV.away (g:=w.heap.size+1+1) (by omega) 0 (.slice x4 (joinC a.clock b.clock).length y4)).away (g:=w.heap.size+1+1) (by omega) 1 (.slice x5 (Xr ltL (zK a b)).length y5)).away (g:=w.heap.size+1+1) (by omega) 2 (.slice x6 (Xr ltT (zJ a b)).length y6);refine hK.out _ _ ⟨hGs.get 0 rfl,hGs.get 1 rfl,hGs.get 2 rfl,hKs.get 0 rfl,hKs.get 1 rfl,hKs.get 2 rfl⟩ (fun hHeld5=>?_);clear hK K hHeld4
 try simp only[Act.put,Zt,Zs,Zr]
 clear c0 c1 c2 f0 f1 f2;refine wr 13 fun K hK=>?_;go_simp;refine hK.out _ _ ⟨hGs.get 0 rfl,hGs.get 1 rfl,hGs.get 2 rfl,hKs.get 0 rfl,hKs.get 1 rfl,hKs.get 2 rfl⟩ (fun hHeld6=>?_);clear hK K hHeld5
 try simp only[Act.put,Zt,Zs,Zr]
 refine wpAnyH_done (by kernel_rfl) ?_ _
 go_wp2_with fail
 refine bodyPost_ret (Zc rfl _ _ (w.heap.size+1+1) 27 _ (0,0) _ rfl hRs Tryz.underlying27 rfl Tryz.sizeState) rfl ⟨_,rfl,hVs,?_⟩
 exact((HB6.setCell (by show w.heap.size≤w.heap.size+1+1;omega) _).setCell (by show w.heap.size≤w.heap.size+1+1;omega) _).setCell (by show w.heap.size≤w.heap.size+1+1;omega) _
end Go.Proofs.YtfhecilhcofboaaGreat
