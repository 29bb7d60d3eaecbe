/- state.listWrong: the first of a list that is wrong in itself, or not behind the one Jd of it. -/
import Derived.Test.YtfhecilhcofboaaGreatStC
namespace Go.Proofs.YtfhecilhcofboaaGreat
open Go.RowKit

section
variable {α:Type}(wr:α→Int)(cm:α→α→Int)
def Yw:Option α→α→Bool
 |none,_=>false
 |some y,x=>decide (0≤cm y x)
def goE:Option α→List α→Int
 |_,[]=>0
 |p,x::r=>if wr x≠0 then wr x else if Yw cm p x then 2 else goE (some x) r
def goA:Option α→List α→Nat
 |_,[]=>0
 |p,x::r=>if wr x≠0 then 0 else if Yw cm p x then 0 else goA (some x) r+1
variable {wr cm}
theorem Ub{p:Option α}{x:α}{r:List α}(h:wr x≠0):goE wr cm p (x::r)=wr x∧goA wr cm p (x::r)=0:=by simp[goE,goA,h]
theorem goE_nb{p:Option α}{x:α}{r:List α}(h:wr x=0)(h2:Yw cm p x=true):goE wr cm p (x::r)=2∧goA wr cm p (x::r)=0:=by simp[goE,goA,h,h2]
theorem goE_go{p:Option α}{x:α}{r:List α}(h:wr x=0)(h2:Yw cm p x=false):goE wr cm p (x::r)=goE wr cm (some x) r∧goA wr cm p (x::r)=goA wr cm (some x) r+1:=by simp[goE,goA,h,h2]
theorem drop_at{l:List α}{k:Nat}{x:α}(h:l[k]? =some x):l.drop k=x::l.drop (k+1):=by
 obtain⟨hk,rfl⟩:=List.getElem?_eq_some_iff.1 h;exact List.drop_eq_getElem_cons hk
end
theorem wrapL{x:Int}(h:-9223372036854775808≤x)(h':x≤9223372036854775807):IntKind.i64.wrap x=x:=by simp[IntKind.wrap,IntKind.bits,IntKind.signed];omega
def Vr{α:Type}(wr:α→Int)(cm:α→α→Int)(l:List α):Int:=goE wr cm none l
def zO{α:Type}(wr:α→Int)(cm:α→α→Int)(l:List α):Int:=if goE wr cm none l=0 then 0 else goA wr cm none l
theorem Va{w:World}{a:Option Addr}{m c:Nat}{l:List Zk}(h:Yf 5 Zv w (.slice a m c) l){k:Nat}{x:Zk}(hx:l[k]? =some x):
  ∃b off,a=some ⟨b,off,none⟩∧w.cell? ⟨b,off+k*5,none⟩=some (.bool x.set)∧w.cell? ⟨b,off+k*5+1,none⟩=some (.int .i64 x.key)∧w.cell? ⟨b,off+k*5+2,none⟩=some (.int .i64 x.item)∧w.cell? ⟨b,off+k*5+3,none⟩=some (.int .i64 x.author)∧w.cell? ⟨b,off+k*5+4,none⟩=some (.int .i64 x.seq):=by
 obtain⟨b,off,h1,h2⟩:=h.at hx;exact⟨b,off,h1,h2 0 _ rfl,h2 1 _ rfl,h2 2 _ rfl,h2 3 _ rfl,h2 4 _ rfl⟩
theorem Jy{w:World}{a:Option Addr}{m c:Nat}{l:List Tal}(h:Yf 3 Yb w (.slice a m c) l){k:Nat}{x:Tal}(hx:l[k]? =some x):
  ∃b off,a=some ⟨b,off,none⟩∧w.cell? ⟨b,off+k*3,none⟩=some (.int .i64 x.key)∧w.cell? ⟨b,off+k*3+1,none⟩=some (.int .i64 x.author)∧w.cell? ⟨b,off+k*3+2,none⟩=some (.int .i64 x.sum):=by
 obtain⟨b,off,h1,h2⟩:=h.at hx;exact⟨b,off,h1,h2 0 _ rfl,h2 1 _ rfl,h2 2 _ rfl⟩

set_option maxRecDepth 100000 in
set_option maxHeartbeats 2000000 in
theorem listWrong_live(v:Value)(l:List Zk)(g:Nat)(cv lv tv:Value)(c:List Int)(w:World)(hl:Yf 5 Zv w v l)(hg:Box w g [cv,lv,tv] 27)(hc:Row w cv c):
  Calls Tryz.prog 65 #[v,.func (Fn.func 63) #[] #[.pointer (some ⟨g,0,none⟩)],.func (Fn.func 66) #[] #[]] w fun e w'=>e=.returned (.agg #[.int .i64 (Vr (Zo c) Yj l),.int .i64 (zO (Zo c) Yj l)])∧Below w.heap.size w w':=by
 have hlen:=hl.len_le;obtain⟨a,cap,rfl,-,-,-⟩:=id hl;have Z0:=Za (Box.new w [.int .i64 0,.int .i64 0] 65);have HB0:=Za (bpl w (.cells #[.int .i64 0,.int .i64 0] 65));have L0:=Za (hl.alloc (.cells #[.int .i64 0,.int .i64 0] 65));have G0:=Za (hg.plus (.cells #[.int .i64 0,.int .i64 0] 65));have C0:=Za (hc.alloc (.cells #[.int .i64 0,.int .i64 0] 65));clear hl hg hc;obtain⟨E,HE⟩:∃E,Hid (Vr (Zo c) Yj l=E):=⟨_,rfl⟩;obtain⟨A,HA⟩:∃A,Hid (zO (Zo c) Yj l=A):=⟨_,rfl⟩;rw[HE.out,HA.out];unfold zO at HA;unfold Vr at HE;rw[HE.out]at HA
 go_enter Tryz.func65,Tryz.ntmps65
 go_wp2_with fail
 go_loopw [12] (fun i wr=>∃(k:Nat) (p:Option Zk),k≤l.length∧i=.int .i64 k∧Hid (E=goE (Zo c) Yj p (l.drop k))∧Hid (A=if E=0 then 0 else((k+goA (Zo c) Yj p (l.drop k):Nat):Int))∧Hid ((k=0∧p=none)∨∃m y,k=m+1∧l[m]? =some y∧p=some y)∧Hid (Below w.heap.size w wr)∧Hid (Box wr w.heap.size [.int .i64 0,.int .i64 0] 65)∧Hid (Yf 5 Zv wr (.slice a l.length cap) l)∧Hid (Box wr g [cv,lv,tv] 27)∧Hid (Row wr cv c)) (fun i _=>l.length - (intOf i).toNat)
 case atStart=>exact⟨0,none,Nat.zero_le _,rfl,Za (by rw[List.drop_zero];exact HE.symm),Za (by rw[List.drop_zero,Nat.zero_add];exact HA.symm),.inl ⟨rfl,rfl⟩,HB0,Z0,L0,G0,C0⟩
 clear HE HA Z0 HB0 L0 G0 C0;obtain⟨k,p,hk,rfl,HE,HA,HP,HB0,Z0,L0,G0,C0⟩:=hrel;obtain⟨w0,rfl⟩:∃w0,w0=wr:=⟨wr,rfl⟩
 by_cases hlt:k<l.length
 ·obtain⟨x,hu⟩:∃x,l[k]? =some x:=⟨_,List.getElem?_eq_getElem hlt⟩;obtain⟨b,off,rfl,d0,d1,d2,d3,d4⟩:=Va L0.out hu;have HD:=Za (drop_at hu);rw[HD.out]at HE HA;have hlt':(k:Int)<(l.length:Int):=by omega
  obtain⟨r,HR⟩:∃r,Hid (Zo c x=r):=⟨_,rfl⟩
  by_cases hr:r=0
  ·subst hr
   rcases HP.out with⟨rfl,rfl⟩|⟨m,y,hkm,hy,rfl⟩
   ·obtain⟨e1,e2⟩:=goE_go (cm:=Yj) (p:=none) (r:=l.drop (0+1)) HR.out rfl;have HE2:Hid (E=goE (Zo c) Yj (some x) (l.drop (0+1))):=by unfold Hid;rw[←e1];exact HE.out
    have HA2:Hid (A=if E=0 then 0 else((0+1+goA (Zo c) Yj (some x) (l.drop (0+1)):Nat):Int)):=by unfold Hid;rw[HA.out,e2];split <;> omega
    clear HE HA e1 e2 HD HP;simp only[Nat.zero_mul,Nat.add_zero]at d0 d1 d2 d3 d4;obtain⟨g0,HG0⟩:∃g0,Hid (w0.heap.size=g0):=⟨_,rfl⟩;have HB1:=Za (Zb HB0.out (bpl w0 (.cells #[.bool x.set,.int .i64 x.key,.int .i64 x.item,.int .i64 x.author,.int .i64 x.seq] 106)));have Z1:=Za (Z0.below (bpl w0 (.cells #[.bool x.set,.int .i64 x.key,.int .i64 x.item,.int .i64 x.author,.int .i64 x.seq] 106)) (nlr _));have L1:=Za (L0.below (bpl w0 (.cells #[.bool x.set,.int .i64 x.key,.int .i64 x.item,.int .i64 x.author,.int .i64 x.seq] 106)) (nlr _));have G1:=Za (G0.below (bpl w0 (.cells #[.bool x.set,.int .i64 x.key,.int .i64 x.item,.int .i64 x.author,.int .i64 x.seq] 106)) (nlr _));have C1:=Za (C0.below (bpl w0 (.cells #[.bool x.set,.int .i64 x.key,.int .i64 x.item,.int .i64 x.author,.int .i64 x.seq] 106)) (nlr _));have V1:=Za (Box.new w0 [.bool x.set,.int .i64 x.key,.int .i64 x.item,.int .i64 x.author,.int .i64 x.seq] 106);clear HB0 Z0 L0 G0 C0
    go_wp2_with fail
    refine(xH x g cv lv tv c _ G1.out C1.out).mono ?_;rintro e w2 ⟨rfl,hb⟩;have HB2:=Za (Zb HB1.out hb);have Z2:=Za (Z1.below hb (nlr _));have L2:=Za (L1.below hb (nlr _));have G2:=Za (G1.below hb (nlr _));have C2:=Za (C1.below hb (nlr _));have V2:=Za (V1.below hb (nlr _));clear HB1 hb Z1 L1 G1 C1 V1;rw[HR.out];rw[HG0.out]at V2;obtain⟨cV0,cV1,cV2,cV3,cV4⟩:=V2.c5
    go_upto_region 7 with fail
    rw[HG0.out];have HK:Hid (∀w',Zh w2 w'→w'.cell? ⟨g0,0,none⟩=some (.bool x.set)∧w'.cell? ⟨g0,1,none⟩=some (.int .i64 x.key)∧w'.cell? ⟨g0,2,none⟩=some (.int .i64 x.item)∧w'.cell? ⟨g0,3,none⟩=some (.int .i64 x.author)∧w'.cell? ⟨g0,4,none⟩=some (.int .i64 x.seq)):=fun w' hg=>by have h:=V2.below hg (nlr _);exact⟨h.get 0 rfl,h.get 1 rfl,h.get 2 rfl,h.get 3 rfl,h.get 4 rfl⟩
    go_cut [37] (fun c wx=>c=.bool false∧Hid (Zh w2 wx))
    case first=>
     refine wp_region_held_drew (S:=fun w'=>w'.cell? ⟨g0,0,none⟩=some (.bool x.set)∧w'.cell? ⟨g0,1,none⟩=some (.int .i64 x.key)∧w'.cell? ⟨g0,2,none⟩=some (.int .i64 x.item)∧w'.cell? ⟨g0,3,none⟩=some (.int .i64 x.author)∧w'.cell? ⟨g0,4,none⟩=some (.int .i64 x.seq)) (by kernel_rfl) (HK.out _ (Zf (Zi _))) (fun hHeld=>?_);refine ty 0 (.int .i64 0) ?_;refine ty 1 (.bool false) ?_;refine ty 2 (.bool false) ?_;refine ts 3 ?_;refine ts 4 ?_;refine ts 5 ?_;refine ts 6 ?_;refine ts 7 ?_;refine ts 8 ?_;refine ts 9 ?_;refine ts 10 ?_;refine ts 11 ?_;refine ty 12 (.bool false) ?_;refine wpAnyH_done (by kernel_rfl) ?_ _
     go_wp2_with fail
     go_meet
     exact⟨by simp,Zf (Zi _)⟩
    obtain⟨rfl,HGR⟩:=hcut;have hgr:=HGR.out
    go_wp2_with fail
    go_roundw
    case rel=>exact⟨0+1,some x,by omega,by go_num,HE2,HA2,.inr ⟨0,x,rfl,hu,rfl⟩,Za (Zb HB2.out hgr),Za (Z2.below hgr (nlr _)),Za (L2.below hgr (nlr _)),Za (G2.below hgr (nlr _)),Za (C2.below hgr (nlr _))⟩
    case measure=>simp[intOf];omega
   obtain⟨b',off',hbb,p0,p1,p2,p3,p4⟩:=Va L0.out hy;simp only[Option.some.injEq,Addr.mk.injEq,and_true]at hbb;obtain⟨rfl,rfl⟩:=hbb;obtain⟨q,HQ⟩:∃q,Hid (Yj y x=q):=⟨_,rfl⟩;have hm0:(0:Int)≤(m:Int):=by omega
   have hm1:(m:Int)<(l.length:Int):=by omega
   have hk0:0<k:=by omega
   have hkd:decide (0<k)=true:=by simp;omega
   have hwk:IntKind.i64.wrap ((k:Int) - 1)=(m:Int):=by rw[hkm,wrapL (by omega) (by omega)];omega
   have HKM:=Za hkm;clear hkm;obtain⟨g0,HG0⟩:∃g0,Hid (w0.heap.size=g0):=⟨_,rfl⟩;clear HP HD p0 p1;have HB1:=Za (Zb HB0.out (bpl w0 (.cells #[.bool x.set,.int .i64 x.key,.int .i64 x.item,.int .i64 x.author,.int .i64 x.seq] 106)));have Z1:=Za (Z0.below (bpl w0 (.cells #[.bool x.set,.int .i64 x.key,.int .i64 x.item,.int .i64 x.author,.int .i64 x.seq] 106)) (nlr _));have L1:=Za (L0.below (bpl w0 (.cells #[.bool x.set,.int .i64 x.key,.int .i64 x.item,.int .i64 x.author,.int .i64 x.seq] 106)) (nlr _));have G1:=Za (G0.below (bpl w0 (.cells #[.bool x.set,.int .i64 x.key,.int .i64 x.item,.int .i64 x.author,.int .i64 x.seq] 106)) (nlr _));have C1:=Za (C0.below (bpl w0 (.cells #[.bool x.set,.int .i64 x.key,.int .i64 x.item,.int .i64 x.author,.int .i64 x.seq] 106)) (nlr _));have V1:=Za (Box.new w0 [.bool x.set,.int .i64 x.key,.int .i64 x.item,.int .i64 x.author,.int .i64 x.seq] 106);clear HB0 Z0 L0 G0 C0
   go_wp2_with fail
   refine(xH x g cv lv tv c _ G1.out C1.out).mono ?_;rintro e w2 ⟨rfl,hb⟩;have HB2:=Za (Zb HB1.out hb);have Z2:=Za (Z1.below hb (nlr _));have L2:=Za (L1.below hb (nlr _));have G2:=Za (G1.below hb (nlr _));have C2:=Za (C1.below hb (nlr _));have V2:=Za (V1.below hb (nlr _));clear HB1 hb Z1 L1 G1 C1 V1;rw[HR.out];rw[HG0.out]at V2;obtain⟨cV0,cV1,cV2,cV3,cV4⟩:=V2.c5
   go_upto_region 7 with fail
   rw[HG0.out]
   have HK:Hid (∀w',Zh w2 w'→(w'.cell? ⟨g0,0,none⟩=some (.bool x.set)∧w'.cell? ⟨g0,1,none⟩=some (.int .i64 x.key)∧w'.cell? ⟨g0,2,none⟩=some (.int .i64 x.item)∧w'.cell? ⟨g0,3,none⟩=some (.int .i64 x.author)∧w'.cell? ⟨g0,4,none⟩=some (.int .i64 x.seq))∧(w'.cell? ⟨b,off+m*5,none⟩=some (.bool y.set)∧w'.cell? ⟨b,off+m*5+1,none⟩=some (.int .i64 y.key)∧w'.cell? ⟨b,off+m*5+2,none⟩=some (.int .i64 y.item)∧w'.cell? ⟨b,off+m*5+3,none⟩=some (.int .i64 y.author)∧w'.cell? ⟨b,off+m*5+4,none⟩=some (.int .i64 y.seq))):=fun w' hg=>by
    have h:=V2.below hg (nlr _);obtain⟨b2,off2,hbb,hcs⟩:=Va (L2.below hg (nlr _)) hy;simp only[Option.some.injEq,Addr.mk.injEq,and_true]at hbb;obtain⟨rfl,rfl⟩:=hbb;exact⟨⟨h.get 0 rfl,h.get 1 rfl,h.get 2 rfl,h.get 3 rfl,h.get 4 rfl⟩,hcs⟩
   have HC2:Hid (∀w',Zh w2 w'→Calls Tryz.prog 66 #[.agg #[.bool y.set,.int .i64 y.key,.int .i64 y.item,.int .i64 y.author,.int .i64 y.seq],.agg #[.bool x.set,.int .i64 x.key,.int .i64 x.item,.int .i64 x.author,.int .i64 x.seq]] w' fun e w''=>e=.returned (.int .i64 q)∧Zh w2 w''):=fun w' hg=>by
    refine(compareLives_fn y x w').mono ?_;rintro e w'' ⟨rfl,hb⟩;exact⟨by rw[HQ.out],Zd hg hb⟩
   go_cut [37] (fun c wx=>c=.bool (decide (0≤q))∧Hid (Zh w2 wx))
   case first=>
    go_region_held3 (fun w'=>(w'.cell? ⟨g0,0,none⟩=some (.bool x.set)∧w'.cell? ⟨g0,1,none⟩=some (.int .i64 x.key)∧w'.cell? ⟨g0,2,none⟩=some (.int .i64 x.item)∧w'.cell? ⟨g0,3,none⟩=some (.int .i64 x.author)∧w'.cell? ⟨g0,4,none⟩=some (.int .i64 x.seq))∧(w'.cell? ⟨b,off+m*5,none⟩=some (.bool y.set)∧w'.cell? ⟨b,off+m*5+1,none⟩=some (.int .i64 y.key)∧w'.cell? ⟨b,off+m*5+2,none⟩=some (.int .i64 y.item)∧w'.cell? ⟨b,off+m*5+3,none⟩=some (.int .i64 y.author)∧w'.cell? ⟨b,off+m*5+4,none⟩=some (.int .i64 y.seq)))
     ((refine HK.out _ ?_;(first|assumption|exact Zf (Zi _)|exact Zf (by assumption))))
     (first|(go_at_call 66;refine(HC2.out _ ?_).mono ?_;(first|assumption|exact Zf (Zi _)|exact Zf (by assumption));rintro e w' ⟨rfl,hgr⟩))
    all_goals (go_wp2_with fail;go_meet;exact⟨by simp,by assumption⟩)
   obtain⟨rfl,HGR⟩:=hcut;have hgr:=HGR.out
   by_cases hq:0≤q
   ·obtain⟨e1,e2⟩:=goE_nb (cm:=Yj) (p:=some y) (r:=l.drop (k+1)) HR.out (by simp[Yw,HQ.out,hq]);rw[e1]at HE;rw[e2,Nat.add_zero]at HA;have hE:=HE.out;subst hE;have hA:A=(k:Int):=by rw[HA.out,if_neg (by omega)]
    subst hA;have hqd:decide (0≤q)=true:=by simp[hq]
    rw[hqd];have Z3:=Za (Z2.below hgr (nlr _));have HB3:=Za (Zb HB2.out hgr);obtain⟨c0,c1⟩:=Z3.c2;have f0:=Z3.free 0;have f1:=Z3.free 1;clear HE HA e1 e2 hq hqd
    go_wp2_with fail
    have hZ:=(Z3.set 0 (.int .i64 2)).set 1 (.int .i64 (k:Int));refine bodyPost_ret (results_cell_row rfl _ _ w.heap.size 65 _ (0,0) _ rfl hZ Tryz.underlying65 rfl Tryz.sizeFault) rfl ⟨rfl,?_⟩
    exact(HB3.setCell (nlr _) _).setCell (nlr _) _
   obtain⟨e1,e2⟩:=goE_go (cm:=Yj) (p:=some y) (r:=l.drop (k+1)) HR.out (by simp[Yw,HQ.out,hq]);have HE2:Hid (E=goE (Zo c) Yj (some x) (l.drop (k+1))):=by unfold Hid;rw[←e1];exact HE.out
   have HA2:Hid (A=if E=0 then 0 else((k+1+goA (Zo c) Yj (some x) (l.drop (k+1)):Nat):Int)):=by unfold Hid;rw[HA.out,e2];split <;> omega
   have hqd:decide (0≤q)=false:=by simp;omega
   rw[hqd];clear HE HA e1 e2 hq hqd
   go_wp2_with fail
   go_roundw
   case rel=>exact⟨k+1,some x,by omega,by go_num,HE2,HA2,.inr ⟨k,x,rfl,hu,rfl⟩,Za (Zb HB2.out hgr),Za (Z2.below hgr (nlr _)),Za (L2.below hgr (nlr _)),Za (G2.below hgr (nlr _)),Za (C2.below hgr (nlr _))⟩
   case measure=>simp[intOf];omega
  have hr':(r != 0)=true:=by simp[hr]
  obtain⟨e1,e2⟩:=Ub (cm:=Yj) (p:=p) (r:=l.drop (k+1)) (show Zo c x≠0 by rw[HR.out];exact hr);rw[e1,HR.out]at HE;rw[e2,Nat.add_zero]at HA;have hE:=HE.out;subst hE;have hA:A=(k:Int):=by rw[HA.out,if_neg hr]
  subst hA;clear HE HA e1 e2 HD HP hr;have HB1:=Za (Zb HB0.out (bpl w0 (.cells #[.bool x.set,.int .i64 x.key,.int .i64 x.item,.int .i64 x.author,.int .i64 x.seq] 106)));have Z1:=Za (Z0.below (bpl w0 (.cells #[.bool x.set,.int .i64 x.key,.int .i64 x.item,.int .i64 x.author,.int .i64 x.seq] 106)) (nlr _));have L1:=Za (L0.below (bpl w0 (.cells #[.bool x.set,.int .i64 x.key,.int .i64 x.item,.int .i64 x.author,.int .i64 x.seq] 106)) (nlr _));have G1:=Za (G0.below (bpl w0 (.cells #[.bool x.set,.int .i64 x.key,.int .i64 x.item,.int .i64 x.author,.int .i64 x.seq] 106)) (nlr _));have C1:=Za (C0.below (bpl w0 (.cells #[.bool x.set,.int .i64 x.key,.int .i64 x.item,.int .i64 x.author,.int .i64 x.seq] 106)) (nlr _));have V1:=Za (Box.new w0 [.bool x.set,.int .i64 x.key,.int .i64 x.item,.int .i64 x.author,.int .i64 x.seq] 106);clear HB0 Z0 L0 G0 C0
  go_wp2_with fail
  refine(xH x g cv lv tv c _ G1.out C1.out).mono ?_;rintro e w2 ⟨rfl,hb⟩;have HB2:=Za (Zb HB1.out hb);have Z2:=Za (Z1.below hb (nlr _));have L2:=Za (L1.below hb (nlr _));have G2:=Za (G1.below hb (nlr _));have C2:=Za (C1.below hb (nlr _));have V2:=Za (V1.below hb (nlr _));clear HB1 hb Z1 L1 G1 C1 V1;rw[HR.out];obtain⟨cZ0,cZ1⟩:=Z2.c2;have f0:=Z2.free 0;have f1:=Z2.free 1
  go_wp2_with fail
  have hZ:=(Z2.set 0 (.int .i64 E)).set 1 (.int .i64 k);refine bodyPost_ret (results_cell_row rfl _ _ w.heap.size 65 _ (0,0) _ rfl hZ Tryz.underlying65 rfl Tryz.sizeFault) rfl ⟨rfl,?_⟩
  exact(HB2.setCell (nlr _) _).setCell (nlr _) _
 have hkl:l.drop k=[]:=List.drop_of_length_le (by omega);rw[hkl]at HE HA;have hE:E=0:=HE.out;have hA:A=0:=by rw[HA.out,if_pos hE]
 subst hE hA;have hlt':¬(k:Int)<(l.length:Int):=by omega
 obtain⟨c0,c1⟩:=Z0.c2;have f0:=Z0.free 0;have f1:=Z0.free 1
 go_wp2_with fail
 have hZ:=(Z0.set 0 (.int .i64 0)).set 1 (.int .i64 0);refine bodyPost_ret (results_cell_row rfl _ _ w.heap.size 65 _ (0,0) _ rfl hZ Tryz.underlying65 rfl Tryz.sizeFault) rfl ⟨rfl,?_⟩
 exact(HB0.setCell (nlr _) _).setCell (nlr _) _
set_option maxRecDepth 100000 in
set_option maxHeartbeats 2000000 in
theorem listWrong_tally(v:Value)(l:List Tal)(g:Nat)(cv lv tv:Value)(c:List Int)(w:World)(hl:Yf 3 Yb w v l)(hg:Box w g [cv,lv,tv] 27)(hc:Row w cv c)(hk1000:∀k,k<c.length→0≤c.getD k 0∧c.getD k 0≤1000):
  Calls Tryz.prog 69 #[v,.func (Fn.func 67) #[] #[.pointer (some ⟨g,0,none⟩)],.func (Fn.func 70) #[] #[]] w fun e w'=>e=.returned (.agg #[.int .i64 (Vr (Zq c) Yr l),.int .i64 (zO (Zq c) Yr l)])∧Below w.heap.size w w':=by
 have hlen:=hl.len_le;obtain⟨a,cap,rfl,-,-,-⟩:=id hl;have Z0:=Za (Box.new w [.int .i64 0,.int .i64 0] 65);have HB0:=Za (bpl w (.cells #[.int .i64 0,.int .i64 0] 65));have L0:=Za (hl.alloc (.cells #[.int .i64 0,.int .i64 0] 65));have G0:=Za (hg.plus (.cells #[.int .i64 0,.int .i64 0] 65));have C0:=Za (hc.alloc (.cells #[.int .i64 0,.int .i64 0] 65));clear hl hg hc;obtain⟨E,HE⟩:∃E,Hid (Vr (Zq c) Yr l=E):=⟨_,rfl⟩;obtain⟨A,HA⟩:∃A,Hid (zO (Zq c) Yr l=A):=⟨_,rfl⟩;rw[HE.out,HA.out];unfold zO at HA;unfold Vr at HE;rw[HE.out]at HA
 go_enter Tryz.func69,Tryz.ntmps69
 go_wp2_with fail
 go_loopw [12] (fun i wr=>∃(k:Nat) (p:Option Tal),k≤l.length∧i=.int .i64 k∧Hid (E=goE (Zq c) Yr p (l.drop k))∧Hid (A=if E=0 then 0 else((k+goA (Zq c) Yr p (l.drop k):Nat):Int))∧Hid ((k=0∧p=none)∨∃m y,k=m+1∧l[m]? =some y∧p=some y)∧Hid (Below w.heap.size w wr)∧Hid (Box wr w.heap.size [.int .i64 0,.int .i64 0] 65)∧Hid (Yf 3 Yb wr (.slice a l.length cap) l)∧Hid (Box wr g [cv,lv,tv] 27)∧Hid (Row wr cv c)) (fun i _=>l.length - (intOf i).toNat)
 case atStart=>exact⟨0,none,Nat.zero_le _,rfl,Za (by rw[List.drop_zero];exact HE.symm),Za (by rw[List.drop_zero,Nat.zero_add];exact HA.symm),.inl ⟨rfl,rfl⟩,HB0,Z0,L0,G0,C0⟩
 clear HE HA Z0 HB0 L0 G0 C0;obtain⟨k,p,hk,rfl,HE,HA,HP,HB0,Z0,L0,G0,C0⟩:=hrel;obtain⟨w0,rfl⟩:∃w0,w0=wr:=⟨wr,rfl⟩
 by_cases hlt:k<l.length
 ·obtain⟨x,hu⟩:∃x,l[k]? =some x:=⟨_,List.getElem?_eq_getElem hlt⟩;obtain⟨b,off,rfl,d0,d1,d2⟩:=Jy L0.out hu;have HD:=Za (drop_at hu);rw[HD.out]at HE HA;have hlt':(k:Int)<(l.length:Int):=by omega
  obtain⟨r,HR⟩:∃r,Hid (Zq c x=r):=⟨_,rfl⟩
  by_cases hr:r=0
  ·subst hr
   rcases HP.out with⟨rfl,rfl⟩|⟨m,y,hkm,hy,rfl⟩
   ·obtain⟨e1,e2⟩:=goE_go (cm:=Yr) (p:=none) (r:=l.drop (0+1)) HR.out rfl;have HE2:Hid (E=goE (Zq c) Yr (some x) (l.drop (0+1))):=by unfold Hid;rw[←e1];exact HE.out
    have HA2:Hid (A=if E=0 then 0 else((0+1+goA (Zq c) Yr (some x) (l.drop (0+1)):Nat):Int)):=by unfold Hid;rw[HA.out,e2];split <;> omega
    clear HE HA e1 e2 HD HP;simp only[Nat.zero_mul,Nat.add_zero]at d0 d1 d2;obtain⟨g0,HG0⟩:∃g0,Hid (w0.heap.size=g0):=⟨_,rfl⟩;have HB1:=Za (Zb HB0.out (bpl w0 (.cells #[.int .i64 x.key,.int .i64 x.author,.int .i64 x.sum] 108)));have Z1:=Za (Z0.below (bpl w0 (.cells #[.int .i64 x.key,.int .i64 x.author,.int .i64 x.sum] 108)) (nlr _));have L1:=Za (L0.below (bpl w0 (.cells #[.int .i64 x.key,.int .i64 x.author,.int .i64 x.sum] 108)) (nlr _));have G1:=Za (G0.below (bpl w0 (.cells #[.int .i64 x.key,.int .i64 x.author,.int .i64 x.sum] 108)) (nlr _));have C1:=Za (C0.below (bpl w0 (.cells #[.int .i64 x.key,.int .i64 x.author,.int .i64 x.sum] 108)) (nlr _));have V1:=Za (Box.new w0 [.int .i64 x.key,.int .i64 x.author,.int .i64 x.sum] 108);clear HB0 Z0 L0 G0 C0
    go_wp2_with fail
    refine(yK x g cv lv tv c _ G1.out C1.out hk1000).mono ?_;rintro e w2 ⟨rfl,hb⟩;have HB2:=Za (Zb HB1.out hb);have Z2:=Za (Z1.below hb (nlr _));have L2:=Za (L1.below hb (nlr _));have G2:=Za (G1.below hb (nlr _));have C2:=Za (C1.below hb (nlr _));have V2:=Za (V1.below hb (nlr _));clear HB1 hb Z1 L1 G1 C1 V1;rw[HR.out];rw[HG0.out]at V2;obtain⟨cV0,cV1,cV2⟩:=V2.c3
    go_upto_region 7 with fail
    rw[HG0.out];have HK:Hid (∀w',Zh w2 w'→w'.cell? ⟨g0,0,none⟩=some (.int .i64 x.key)∧w'.cell? ⟨g0,1,none⟩=some (.int .i64 x.author)∧w'.cell? ⟨g0,2,none⟩=some (.int .i64 x.sum)):=fun w' hg=>by have h:=V2.below hg (nlr _);exact⟨h.get 0 rfl,h.get 1 rfl,h.get 2 rfl⟩
    go_cut [37] (fun c wx=>c=.bool false∧Hid (Zh w2 wx))
    case first=>
     refine wp_region_held_drew (S:=fun w'=>w'.cell? ⟨g0,0,none⟩=some (.int .i64 x.key)∧w'.cell? ⟨g0,1,none⟩=some (.int .i64 x.author)∧w'.cell? ⟨g0,2,none⟩=some (.int .i64 x.sum)) (by kernel_rfl) (HK.out _ (Zf (Zi _))) (fun hHeld=>?_);refine ty 0 (.int .i64 0) ?_;refine ty 1 (.bool false) ?_;refine ty 2 (.bool false) ?_;refine ts 3 ?_;refine ts 4 ?_;refine ts 5 ?_;refine ts 6 ?_;refine ts 7 ?_;refine ts 8 ?_;refine ts 9 ?_;refine ts 10 ?_;refine ts 11 ?_;refine ty 12 (.bool false) ?_;refine wpAnyH_done (by kernel_rfl) ?_ _
     go_wp2_with fail
     go_meet
     exact⟨by simp,Zf (Zi _)⟩
    obtain⟨rfl,HGR⟩:=hcut;have hgr:=HGR.out
    go_wp2_with fail
    go_roundw
    case rel=>exact⟨0+1,some x,by omega,by go_num,HE2,HA2,.inr ⟨0,x,rfl,hu,rfl⟩,Za (Zb HB2.out hgr),Za (Z2.below hgr (nlr _)),Za (L2.below hgr (nlr _)),Za (G2.below hgr (nlr _)),Za (C2.below hgr (nlr _))⟩
    case measure=>simp[intOf];omega
   obtain⟨b',off',hbb,p0,p1,p2⟩:=Jy L0.out hy;simp only[Option.some.injEq,Addr.mk.injEq,and_true]at hbb;obtain⟨rfl,rfl⟩:=hbb;obtain⟨q,HQ⟩:∃q,Hid (Yr y x=q):=⟨_,rfl⟩;have hm0:(0:Int)≤(m:Int):=by omega
   have hm1:(m:Int)<(l.length:Int):=by omega
   have hk0:0<k:=by omega
   have hkd:decide (0<k)=true:=by simp;omega
   have hwk:IntKind.i64.wrap ((k:Int) - 1)=(m:Int):=by rw[hkm,wrapL (by omega) (by omega)];omega
   have HKM:=Za hkm;clear hkm;obtain⟨g0,HG0⟩:∃g0,Hid (w0.heap.size=g0):=⟨_,rfl⟩;clear HP HD p0 p1;have HB1:=Za (Zb HB0.out (bpl w0 (.cells #[.int .i64 x.key,.int .i64 x.author,.int .i64 x.sum] 108)));have Z1:=Za (Z0.below (bpl w0 (.cells #[.int .i64 x.key,.int .i64 x.author,.int .i64 x.sum] 108)) (nlr _));have L1:=Za (L0.below (bpl w0 (.cells #[.int .i64 x.key,.int .i64 x.author,.int .i64 x.sum] 108)) (nlr _));have G1:=Za (G0.below (bpl w0 (.cells #[.int .i64 x.key,.int .i64 x.author,.int .i64 x.sum] 108)) (nlr _));have C1:=Za (C0.below (bpl w0 (.cells #[.int .i64 x.key,.int .i64 x.author,.int .i64 x.sum] 108)) (nlr _));have V1:=Za (Box.new w0 [.int .i64 x.key,.int .i64 x.author,.int .i64 x.sum] 108);clear HB0 Z0 L0 G0 C0
   go_wp2_with fail
   refine(yK x g cv lv tv c _ G1.out C1.out hk1000).mono ?_;rintro e w2 ⟨rfl,hb⟩;have HB2:=Za (Zb HB1.out hb);have Z2:=Za (Z1.below hb (nlr _));have L2:=Za (L1.below hb (nlr _));have G2:=Za (G1.below hb (nlr _));have C2:=Za (C1.below hb (nlr _));have V2:=Za (V1.below hb (nlr _));clear HB1 hb Z1 L1 G1 C1 V1;rw[HR.out];rw[HG0.out]at V2;obtain⟨cV0,cV1,cV2⟩:=V2.c3
   go_upto_region 7 with fail
   rw[HG0.out]
   have HK:Hid (∀w',Zh w2 w'→(w'.cell? ⟨g0,0,none⟩=some (.int .i64 x.key)∧w'.cell? ⟨g0,1,none⟩=some (.int .i64 x.author)∧w'.cell? ⟨g0,2,none⟩=some (.int .i64 x.sum))∧(w'.cell? ⟨b,off+m*3,none⟩=some (.int .i64 y.key)∧w'.cell? ⟨b,off+m*3+1,none⟩=some (.int .i64 y.author)∧w'.cell? ⟨b,off+m*3+2,none⟩=some (.int .i64 y.sum))):=fun w' hg=>by
    have h:=V2.below hg (nlr _);obtain⟨b2,off2,hbb,hcs⟩:=Jy (L2.below hg (nlr _)) hy;simp only[Option.some.injEq,Addr.mk.injEq,and_true]at hbb;obtain⟨rfl,rfl⟩:=hbb;exact⟨⟨h.get 0 rfl,h.get 1 rfl,h.get 2 rfl⟩,hcs⟩
   have HC2:Hid (∀w',Zh w2 w'→Calls Tryz.prog 70 #[.agg #[.int .i64 y.key,.int .i64 y.author,.int .i64 y.sum],.agg #[.int .i64 x.key,.int .i64 x.author,.int .i64 x.sum]] w' fun e w''=>e=.returned (.int .i64 q)∧Zh w2 w''):=fun w' hg=>by
    refine(yH y x w').mono ?_;rintro e w'' ⟨rfl,hb⟩;exact⟨by rw[HQ.out],Zd hg hb⟩
   go_cut [37] (fun c wx=>c=.bool (decide (0≤q))∧Hid (Zh w2 wx))
   case first=>
    go_region_held3 (fun w'=>(w'.cell? ⟨g0,0,none⟩=some (.int .i64 x.key)∧w'.cell? ⟨g0,1,none⟩=some (.int .i64 x.author)∧w'.cell? ⟨g0,2,none⟩=some (.int .i64 x.sum))∧(w'.cell? ⟨b,off+m*3,none⟩=some (.int .i64 y.key)∧w'.cell? ⟨b,off+m*3+1,none⟩=some (.int .i64 y.author)∧w'.cell? ⟨b,off+m*3+2,none⟩=some (.int .i64 y.sum)))
     ((refine HK.out _ ?_;(first|assumption|exact Zf (Zi _)|exact Zf (by assumption))))
     (first|(go_at_call 70;refine(HC2.out _ ?_).mono ?_;(first|assumption|exact Zf (Zi _)|exact Zf (by assumption));rintro e w' ⟨rfl,hgr⟩))
    all_goals (go_wp2_with fail;go_meet;exact⟨by simp,by assumption⟩)
   obtain⟨rfl,HGR⟩:=hcut;have hgr:=HGR.out
   by_cases hq:0≤q
   ·obtain⟨e1,e2⟩:=goE_nb (cm:=Yr) (p:=some y) (r:=l.drop (k+1)) HR.out (by simp[Yw,HQ.out,hq]);rw[e1]at HE;rw[e2,Nat.add_zero]at HA;have hE:=HE.out;subst hE;have hA:A=(k:Int):=by rw[HA.out,if_neg (by omega)]
    subst hA;have hqd:decide (0≤q)=true:=by simp[hq]
    rw[hqd];have Z3:=Za (Z2.below hgr (nlr _));have HB3:=Za (Zb HB2.out hgr);obtain⟨c0,c1⟩:=Z3.c2;have f0:=Z3.free 0;have f1:=Z3.free 1;clear HE HA e1 e2 hq hqd
    go_wp2_with fail
    have hZ:=(Z3.set 0 (.int .i64 2)).set 1 (.int .i64 (k:Int));refine bodyPost_ret (results_cell_row rfl _ _ w.heap.size 65 _ (0,0) _ rfl hZ Tryz.underlying65 rfl Tryz.sizeFault) rfl ⟨rfl,?_⟩
    exact(HB3.setCell (nlr _) _).setCell (nlr _) _
   obtain⟨e1,e2⟩:=goE_go (cm:=Yr) (p:=some y) (r:=l.drop (k+1)) HR.out (by simp[Yw,HQ.out,hq]);have HE2:Hid (E=goE (Zq c) Yr (some x) (l.drop (k+1))):=by unfold Hid;rw[←e1];exact HE.out
   have HA2:Hid (A=if E=0 then 0 else((k+1+goA (Zq c) Yr (some x) (l.drop (k+1)):Nat):Int)):=by unfold Hid;rw[HA.out,e2];split <;> omega
   have hqd:decide (0≤q)=false:=by simp;omega
   rw[hqd];clear HE HA e1 e2 hq hqd
   go_wp2_with fail
   go_roundw
   case rel=>exact⟨k+1,some x,by omega,by go_num,HE2,HA2,.inr ⟨k,x,rfl,hu,rfl⟩,Za (Zb HB2.out hgr),Za (Z2.below hgr (nlr _)),Za (L2.below hgr (nlr _)),Za (G2.below hgr (nlr _)),Za (C2.below hgr (nlr _))⟩
   case measure=>simp[intOf];omega
  have hr':(r != 0)=true:=by simp[hr]
  obtain⟨e1,e2⟩:=Ub (cm:=Yr) (p:=p) (r:=l.drop (k+1)) (show Zq c x≠0 by rw[HR.out];exact hr);rw[e1,HR.out]at HE;rw[e2,Nat.add_zero]at HA;have hE:=HE.out;subst hE;have hA:A=(k:Int):=by rw[HA.out,if_neg hr]
  subst hA;clear HE HA e1 e2 HD HP hr;have HB1:=Za (Zb HB0.out (bpl w0 (.cells #[.int .i64 x.key,.int .i64 x.author,.int .i64 x.sum] 108)));have Z1:=Za (Z0.below (bpl w0 (.cells #[.int .i64 x.key,.int .i64 x.author,.int .i64 x.sum] 108)) (nlr _));have L1:=Za (L0.below (bpl w0 (.cells #[.int .i64 x.key,.int .i64 x.author,.int .i64 x.sum] 108)) (nlr _));have G1:=Za (G0.below (bpl w0 (.cells #[.int .i64 x.key,.int .i64 x.author,.int .i64 x.sum] 108)) (nlr _));have C1:=Za (C0.below (bpl w0 (.cells #[.int .i64 x.key,.int .i64 x.author,.int .i64 x.sum] 108)) (nlr _));have V1:=Za (Box.new w0 [.int .i64 x.key,.int .i64 x.author,.int .i64 x.sum] 108);clear HB0 Z0 L0 G0 C0
  go_wp2_with fail
  refine(yK x g cv lv tv c _ G1.out C1.out hk1000).mono ?_;rintro e w2 ⟨rfl,hb⟩;have HB2:=Za (Zb HB1.out hb);have Z2:=Za (Z1.below hb (nlr _));have L2:=Za (L1.below hb (nlr _));have G2:=Za (G1.below hb (nlr _));have C2:=Za (C1.below hb (nlr _));have V2:=Za (V1.below hb (nlr _));clear HB1 hb Z1 L1 G1 C1 V1;rw[HR.out];obtain⟨cZ0,cZ1⟩:=Z2.c2;have f0:=Z2.free 0;have f1:=Z2.free 1
  go_wp2_with fail
  have hZ:=(Z2.set 0 (.int .i64 E)).set 1 (.int .i64 k);refine bodyPost_ret (results_cell_row rfl _ _ w.heap.size 65 _ (0,0) _ rfl hZ Tryz.underlying65 rfl Tryz.sizeFault) rfl ⟨rfl,?_⟩
  exact(HB2.setCell (nlr _) _).setCell (nlr _) _
 have hkl:l.drop k=[]:=List.drop_of_length_le (by omega);rw[hkl]at HE HA;have hE:E=0:=HE.out;have hA:A=0:=by rw[HA.out,if_pos hE]
 subst hE hA;have hlt':¬(k:Int)<(l.length:Int):=by omega
 obtain⟨c0,c1⟩:=Z0.c2;have f0:=Z0.free 0;have f1:=Z0.free 1
 go_wp2_with fail
 have hZ:=(Z0.set 0 (.int .i64 0)).set 1 (.int .i64 0);refine bodyPost_ret (results_cell_row rfl _ _ w.heap.size 65 _ (0,0) _ rfl hZ Tryz.underlying65 rfl Tryz.sizeFault) rfl ⟨rfl,?_⟩
 exact(HB0.setCell (nlr _) _).setCell (nlr _) _
end Go.Proofs.YtfhecilhcofboaaGreat
