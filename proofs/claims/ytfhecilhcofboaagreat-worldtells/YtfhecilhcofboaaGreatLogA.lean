/- How a world grows, a rule a step, and variables of the call's own. (Not beside Read or UTells, which have these names.) -/
import Derived.Test.YtfhecilhcofboaaGreatReads
import Derived.Deep.RegionHeld3
import Derived.Deep.DeepCutAuto
import Derived.Deep.OwnRows
import Derived.Test.YtfhecilhcofboaaGreatUpdRef
namespace Go.Proofs.YtfhecilhcofboaaGreat
open Go.RowKit

def Zh(w w':World):Prop:=Below w.heap.size w w'
theorem Zi(w:World):Zh w w:=Below.refl _ _
theorem Vm{w w1:World}(o:Obj)(h:Zh w w1):Zh w (w1.alloc o):=Below.plus h o
theorem Zf{w w1:World}(h:Zh w w1):Zh w w1.drew:=Below.drew h
theorem Zd{w w1 w2:World}(h:Zh w w1)(hb:Below w1.heap.size w1 w2):Zh w w2:=Zb h hb
theorem Box.plus{w:World}{g:Nat}{cs:List Value}{t:TypeId}(h:Box w g cs t)(o:Obj):Box (w.alloc o) g cs t:=h.below (bpl w o) (nlr _)
theorem Box.away{w:World}{g g' i:Nat}{cs:List Value}{t:TypeId}{v:Value}(h:Box w g cs t)(hne:g≠g'):Box (w.setCell ⟨g',i,none⟩ v) g cs t:=by
 unfold Box at h ⊢;rw[Below.heap_setCell _ _ _ _ hne];exact h
theorem Box.low{w w':World}{g B:Nat}{cs:List Value}{t:TypeId}(h:Box w g cs t)(hb:Below B w w')(hB:g<B):Box w' g cs t:=by
 unfold Box at h ⊢;rw[hb.block g hB];exact h
theorem Box.reads{w:World}{g:Nat}{x0 x1 x2 x3 x4:Value}{t:TypeId}(h:Box w g [x0,x1,x2,x3,x4] t):w.cell? ⟨g,0,none⟩=some x0∧w.cell? ⟨g,1,none⟩=some x1∧w.cell? ⟨g,2,none⟩=some x2∧w.cell? ⟨g,3,none⟩=some x3∧w.cell? ⟨g,4,none⟩=some x4:=
 ⟨h.get 0 rfl,h.get 1 rfl,h.get 2 rfl,h.get 3 rfl,h.get 4 rfl⟩
theorem wrapS{x:Int}(h:-1000000000≤x)(h':x≤1000000000):IntKind.i64.wrap x=x:=by simp[IntKind.wrap,IntKind.bits,IntKind.signed];omega
end Go.Proofs.YtfhecilhcofboaaGreat
/- Right updates: whether a clock has seen one, and why one can't come next. -/
namespace Go.Proofs.YtfhecilhcofboaaGreat
open Go.RowKit

def Uc(u:Upd):Int:=u.seen.getD u.author.toNat 0
def Xu(u:Upd)(xs:List Int):Bool:=Vy xs u.author (Uc u+1)
def FitU(u:Upd):Prop:=0≤u.author∧u.author<u.seen.length∧0≤Uc u∧Uc u≤1000
theorem Xj{u:Upd}{n:Int}(h:Zz u n=0):Zn u.seen n=0∧0≤u.author∧u.author<n∧u.seen.getD u.author.toNat 0<1000:=by
 rcases zY u n with⟨h1,h2⟩|⟨h0,h2⟩
 ·omega
 omega
theorem xY{u:Upd}{n:Int}(h:Zz u n=0):FitU u:=by
 obtain⟨hcc,h1,h2,h3⟩:=Xj h;obtain⟨-,-,g3,g4⟩:=Yq hcc;have:=g4 u.author.toNat (by omega);exact⟨by omega,by omega,this.1,this.2⟩

set_option maxRecDepth 100000 in
set_option maxHeartbeats 2000000 in
theorem zI(v cv:Value)(u:Upd)(xs:List Int)(w:World)(h:Jf w v u)(hc:Row w cv xs)(hf:FitU u):
  Calls Tryz.prog 90 #[v,cv] w fun e w'=>e=.returned (.bool (Xu u xs))∧Below w.heap.size w w':=by
 obtain⟨h0,h1,h2,h3⟩:=hf;obtain⟨k,hk⟩:∃k:Nat,u.author=k:=⟨u.author.toNat,by omega⟩;have hkl:k<u.seen.length:=by omega
 obtain⟨y,HY⟩:∃y,Hid (Uc u=y):=⟨_,rfl⟩;obtain⟨s,HS⟩:∃s,Hid (Xu u xs=s):=⟨_,rfl⟩;rw[HY.out]at h2 h3;rw[HS.out];have hyk:u.seen.getD k 0=y:=by rw[←HY.out];unfold Uc;rw[hk,Int.toNat_natCast]
 have hin:=h;obtain⟨sv,rfl,hs⟩:=h;obtain⟨a,cap,rfl,-,-,-⟩:=id hs;obtain⟨a',cap',rfl,-,-,-⟩:=id hc;obtain⟨W0,HW0⟩:∃W0,Hid (w.alloc (.cells #[.int .i64 u.author,.slice a u.seen.length cap,.int .i64 u.kind,.int .i64 u.key,.int .i64 u.item] 33)=W0):=⟨_,rfl⟩;have HB:Hid (Below w.heap.size w W0):=by rw[←HW0.out];exact bpl w _
 have HBox:Hid (Box W0 w.heap.size [.int .i64 u.author,.slice a u.seen.length cap,.int .i64 u.kind,.int .i64 u.key,.int .i64 u.item] 33):=by rw[←HW0.out];exact Box.new _ _ _
 obtain⟨g0,HG0⟩:∃g0,Hid (w.heap.size=g0):=⟨_,rfl⟩;rw[HG0.out]at HBox;have HI:=Za (hin.below HB.out (nlr _));have HSR:=Za (hs.below HB.out (nlr _));have HCR:=Za (hc.below HB.out (nlr _))
 have HK:Hid (∀w',Zh W0 w'→w'.cell? ⟨g0,0,none⟩=some (.int .i64 u.author)∧w'.cell? ⟨g0,1,none⟩=some (.slice a u.seen.length cap)∧w'.cell? ⟨g0,2,none⟩=some (.int .i64 u.kind)∧w'.cell? ⟨g0,3,none⟩=some (.int .i64 u.key)∧w'.cell? ⟨g0,4,none⟩=some (.int .i64 u.item)):=
  fun w' hg=>(HBox.below hg (nlr _)).reads
 have H1:Hid (∀w',Zh W0 w'→Calls Tryz.prog 61 #[.slice a u.seen.length cap,.int .i64 u.author] w' fun e w''=>e=.returned (.bool true)∧w''=w'):=fun w' hg=>
  Ye _ u.seen u.author w' (HSR.below hg (nlr _)) h0 h1
 have H2:Hid (∀w',Zh W0 w'→Calls Tryz.prog 115 #[.agg #[.int .i64 u.author,.slice a u.seen.length cap,.int .i64 u.kind,.int .i64 u.key,.int .i64 u.item]] w' fun e w''=>e=.returned (.int .i64 (y+1))∧Zh W0 w''):=fun w' hg=>by
  refine(seq_upd _ u k y w' (HI.below hg (nlr _)) hk hkl hyk h2 h3).mono ?_;rintro e w'' ⟨rfl,hb⟩;exact⟨rfl,Zd hg hb⟩
 have H3:Hid (∀w',Zh W0 w'→Calls Tryz.prog 106 #[.slice a' xs.length cap',.int .i64 u.author,.int .i64 (y+1)] w' fun e w''=>e=.returned (.bool s)∧w''=w'):=fun w' hg=>by
  have:=xB _ xs u.author (y+1) w' (HCR.below hg (nlr _));rw[←HY.out,show Vy xs u.author (Uc u+1)=s from HS.out]at this;rw[←HY.out];exact this
 clear hin hs hc HI HSR HCR HBox hyk hk hkl
 go_enter Tryz.func90,Tryz.ntmps90
 go_upto_region 1 with fail
 rw[HW0.out,HG0.out]
 go_region_held3 (fun w'=>w'.cell? ⟨g0,0,none⟩=some (.int .i64 u.author)∧w'.cell? ⟨g0,1,none⟩=some (.slice a u.seen.length cap)∧w'.cell? ⟨g0,2,none⟩=some (.int .i64 u.kind)∧w'.cell? ⟨g0,3,none⟩=some (.int .i64 u.key)∧w'.cell? ⟨g0,4,none⟩=some (.int .i64 u.item))
  ((refine HK.out _ ?_;(first|assumption|exact Zf (Zi _)|exact Zf (by assumption))))
  (first
   |(go_at_call 61;refine(H1.out _ ?_).mono ?_;(first|assumption|exact Zf (Zi _)|exact Zf (by assumption));rintro e w' ⟨rfl,rfl⟩)
   |(go_at_call 115;refine(H2.out _ ?_).mono ?_;(first|assumption|exact Zf (Zi _)|exact Zf (by assumption));rintro e w' ⟨rfl,hgr⟩)
   |(go_at_call 106;refine(H3.out _ ?_).mono ?_;(first|assumption|exact Zf (Zi _)|exact Zf (by assumption));rintro e w' ⟨rfl,rfl⟩))
 all_goals (go_wp2_with fail;go_ret;exact⟨rfl,Zb HB.out (by assumption)⟩)

def Qk(u:Upd)(xs:List Int):Int:=if Xu u xs then 7 else if Ju xs u.seen then 0 else 8

set_option maxRecDepth 100000 in
set_option maxHeartbeats 1000000 in
theorem misfit_upd(v cv:Value)(u:Upd)(xs:List Int)(w:World)(h:Jf w v u)(hc:Row w cv xs)(hf:FitU u):
  Calls Tryz.prog 110 #[v,cv] w fun e w'=>e=.returned (.int .i64 (Qk u xs))∧Below w.heap.size w w':=by
 obtain⟨m,HM⟩:∃m,Hid (Qk u xs=m):=⟨_,rfl⟩;rw[HM.out];have hin:=h;obtain⟨sv,rfl,hs⟩:=h;obtain⟨a,cap,rfl,-,-,-⟩:=id hs;obtain⟨a',cap',rfl,-,-,-⟩:=id hc;have U0:=Za (hin.below (bpl w (.cells #[.int .i64 u.author,.slice a u.seen.length cap,.int .i64 u.kind,.int .i64 u.key,.int .i64 u.item] 33)) (nlr _));have S0:=Za (hs.alloc (.cells #[.int .i64 u.author,.slice a u.seen.length cap,.int .i64 u.kind,.int .i64 u.key,.int .i64 u.item] 33));have C0:=Za (hc.alloc (.cells #[.int .i64 u.author,.slice a u.seen.length cap,.int .i64 u.kind,.int .i64 u.key,.int .i64 u.item] 33));have X0:=Za (Box.new w [.int .i64 u.author,.slice a u.seen.length cap,.int .i64 u.kind,.int .i64 u.key,.int .i64 u.item] 33);have HB0:=Za (bpl w (.cells #[.int .i64 u.author,.slice a u.seen.length cap,.int .i64 u.kind,.int .i64 u.key,.int .i64 u.item] 33));clear hin hs hc
 cases hs7:Xu u xs
 ·cases hs8:Ju xs u.seen
  ·obtain rfl:m=8:=by rw[←HM.out];simp[Qk,hs7,hs8]
   clear HM
   go_enter Tryz.func110,Tryz.ntmps110
   go_wp2_with fail
   refine(zI _ _ u xs _ U0.out C0.out hf).mono ?_;rintro e w1 ⟨rfl,hb⟩;have HB1:=Za (Zb HB0.out hb);have U1:=Za (U0.below hb (nlr _));have S1:=Za (S0.below hb (nlr _));have C1:=Za (C0.below hb (nlr _));have X1:=Za (X0.below hb (nlr _));clear HB0 hb U0 S0 C0 X0;rw[hs7];obtain⟨cX0,cX1,cX2,cX3,cX4⟩:=X1.c5
   go_wp2_with fail
   refine(Jz _ _ xs u.seen _ C1.out S1.out).mono ?_;rintro e w2 ⟨rfl,hb⟩;have HB2:=Za (Zb HB1.out hb);have U2:=Za (U1.below hb (nlr _));have S2:=Za (S1.below hb (nlr _));have C2:=Za (C1.below hb (nlr _));have X2:=Za (X1.below hb (nlr _));clear HB1 hb U1 S1 C1 X1;rw[hs8]
   go_wp2
   go_ret
   exact⟨rfl,HB2.out⟩
  obtain rfl:m=0:=by rw[←HM.out];simp[Qk,hs7,hs8]
  clear HM
  go_enter Tryz.func110,Tryz.ntmps110
  go_wp2_with fail
  refine(zI _ _ u xs _ U0.out C0.out hf).mono ?_;rintro e w1 ⟨rfl,hb⟩;have HB1:=Za (Zb HB0.out hb);have U1:=Za (U0.below hb (nlr _));have S1:=Za (S0.below hb (nlr _));have C1:=Za (C0.below hb (nlr _));have X1:=Za (X0.below hb (nlr _));clear HB0 hb U0 S0 C0 X0;rw[hs7];obtain⟨cX0,cX1,cX2,cX3,cX4⟩:=X1.c5
  go_wp2_with fail
  refine(Jz _ _ xs u.seen _ C1.out S1.out).mono ?_;rintro e w2 ⟨rfl,hb⟩;have HB2:=Za (Zb HB1.out hb);have U2:=Za (U1.below hb (nlr _));have S2:=Za (S1.below hb (nlr _));have C2:=Za (C1.below hb (nlr _));have X2:=Za (X1.below hb (nlr _));clear HB1 hb U1 S1 C1 X1;rw[hs8]
  go_wp2
  go_ret
  exact⟨rfl,HB2.out⟩
 obtain rfl:m=7:=by rw[←HM.out];simp[Qk,hs7]
 clear HM
 go_enter Tryz.func110,Tryz.ntmps110
 go_wp2_with fail
 refine(zI _ _ u xs _ U0.out C0.out hf).mono ?_;rintro e w1 ⟨rfl,hb⟩;have HB1:=Za (Zb HB0.out hb);have U1:=Za (U0.below hb (nlr _));have S1:=Za (S0.below hb (nlr _));have C1:=Za (C0.below hb (nlr _));have X1:=Za (X0.below hb (nlr _));clear HB0 hb U0 S0 C0 X0;rw[hs7]
 go_wp2
 go_ret
 exact⟨rfl,HB1.out⟩

def Yz(u:Upd)(xs:List Int)(n:Int):Int:=if Zz u n=0 then Qk u xs else Zz u n

set_option maxRecDepth 100000 in
set_option maxHeartbeats 1000000 in
theorem wrong_log(v cv:Value)(u:Upd)(xs:List Int)(n:Int)(w:World)(h:Jf w v u)(hc:Row w cv xs):
  Calls Tryz.prog 71 #[v,cv,.int .i64 n] w fun e w'=>e=.returned (.int .i64 (Yz u xs n))∧Below w.heap.size w w':=by
 have hin:=h;obtain⟨sv,rfl,hs⟩:=h;obtain⟨a,cap,rfl,-,-,-⟩:=id hs;obtain⟨a',cap',rfl,-,-,-⟩:=id hc;have U0:=Za (hin.below (bpl w (.cells #[.int .i64 u.author,.slice a u.seen.length cap,.int .i64 u.kind,.int .i64 u.key,.int .i64 u.item] 33)) (nlr _));have C0:=Za (hc.alloc (.cells #[.int .i64 u.author,.slice a u.seen.length cap,.int .i64 u.kind,.int .i64 u.key,.int .i64 u.item] 33));have X0:=Za (Box.new w [.int .i64 u.author,.slice a u.seen.length cap,.int .i64 u.kind,.int .i64 u.key,.int .i64 u.item] 33);have HB0:=Za (bpl w (.cells #[.int .i64 u.author,.slice a u.seen.length cap,.int .i64 u.kind,.int .i64 u.key,.int .i64 u.item] 33));clear hin hs hc;obtain⟨m,HM⟩:∃m,Hid (Yz u xs n=m):=⟨_,rfl⟩;rw[HM.out]
 by_cases hw:Zz u n=0
 ·have hf:=Za (xY hw);obtain rfl:Qk u xs=m:=by rw[←HM.out];simp[Yz,hw]
  have HW:=Za hw;clear HM hw
  go_enter Tryz.func71,Tryz.ntmps71
  go_wp2_with fail
  refine(xE _ u n _ U0.out).mono ?_;rintro e w1 ⟨rfl,hb⟩;have HB1:=Za (Zb HB0.out hb);have U1:=Za (U0.below hb (nlr _));have C1:=Za (C0.below hb (nlr _));have X1:=Za (X0.below hb (nlr _));clear HB0 hb U0 C0 X0;rw[HW.out];obtain⟨cX0,cX1,cX2,cX3,cX4⟩:=X1.c5
  go_wp2_with fail
  refine(misfit_upd _ _ u xs _ U1.out C1.out hf.out).mono ?_;rintro e w2 ⟨rfl,hb⟩;have HB2:=Za (Zb HB1.out hb);have U2:=Za (U1.below hb (nlr _));have C2:=Za (C1.below hb (nlr _));have X2:=Za (X1.below hb (nlr _));clear HB1 hb U1 C1 X1
  go_wp2
  go_ret
  exact⟨rfl,HB2.out⟩
 have hne:(Zz u n != 0)=true:=by simp[hw]
 obtain rfl:Zz u n=m:=by rw[←HM.out];simp[Yz,hw]
 clear HM hw
 go_enter Tryz.func71,Tryz.ntmps71
 go_wp2_with fail
 refine(xE _ u n _ U0.out).mono ?_;rintro e w1 ⟨rfl,hb⟩;have HB1:=Za (Zb HB0.out hb);have U1:=Za (U0.below hb (nlr _));have C1:=Za (C0.below hb (nlr _));have X1:=Za (X0.below hb (nlr _));clear HB0 hb U0 C0 X0
 go_wp2
 go_ret
 exact⟨rfl,HB1.out⟩

end Go.Proofs.YtfhecilhcofboaaGreat
/- A slice value that reads as a list of updates, and what log.Clock answers of one. -/
namespace Go.Proofs.YtfhecilhcofboaaGreat
open Go.RowKit

def UpdAt(w:World)(b o:Nat)(u:Upd):Prop:=
 ∃sv,Row w sv u.seen∧w.cell? ⟨b,o,none⟩=some (.int .i64 u.author)∧w.cell? ⟨b,o+1,none⟩=some sv∧w.cell? ⟨b,o+2,none⟩=some (.int .i64 u.kind)∧w.cell? ⟨b,o+3,none⟩=some (.int .i64 u.key)∧w.cell? ⟨b,o+4,none⟩=some (.int .i64 u.item)
theorem UpdAt.below{w w':World}{b o:Nat}{u:Upd}(h:UpdAt w b o u){B:Nat}(hb:Below B w w')(hB:w.heap.size≤B):UpdAt w' b o u:=by
 obtain⟨sv,hs,h0,h1,h2,h3,h4⟩:=h;have hlt:b<B:=Nat.lt_of_lt_of_le (World.block_lt_of_cell? w _ h0) hB;exact⟨sv,hs.below hb hB,(hb.cell (p:=⟨b,_,none⟩) hlt).trans h0,(hb.cell (p:=⟨b,_,none⟩) hlt).trans h1,(hb.cell (p:=⟨b,_,none⟩) hlt).trans h2,(hb.cell (p:=⟨b,_,none⟩) hlt).trans h3,(hb.cell (p:=⟨b,_,none⟩) hlt).trans h4⟩

def Vh(w:World)(v:Value)(l:List Upd):Prop:=
 ∃(a:Option Addr) (cap:Nat),v=.slice a l.length cap∧l.length≤cap∧cap≤maxLen∧
  ∀i u,l[i]? =some u→∃b off,a=some ⟨b,off,none⟩∧UpdAt w b (off+i*5) u
theorem Vh.below{w w':World}{v:Value}{l:List Upd}(h:Vh w v l){B:Nat}(hb:Below B w w')(hB:w.heap.size≤B):Vh w' v l:=by
 obtain⟨a,cap,h1,h2,h3,h4⟩:=h;refine⟨a,cap,h1,h2,h3,fun i u hi=>?_⟩;obtain⟨b,off,h5,h6⟩:=h4 i u hi;exact⟨b,off,h5,h6.below hb hB⟩
theorem Vh.len_le{w:World}{v:Value}{l:List Upd}(h:Vh w v l):l.length≤9223372036854775807:=by
 obtain⟨a,cap,h1,h2,h3,h4⟩:=h;unfold maxLen at h3;omega
theorem Vh.nil(w:World):Vh w (.slice none 0 0) []:=⟨none,0,rfl,by simp,by unfold maxLen;omega,fun i u hi=>by simp at hi⟩
theorem Vh.alloc{w:World}{v:Value}{l:List Upd}(h:Vh w v l)(o:Obj):Vh (w.alloc o) v l:=h.below ((Below.refl w.heap.size _).alloc (nlr _) o) (nlr _)
theorem Row.nil(w:World):Row w (.slice none 0 0) []:=⟨none,0,rfl,by simp,by unfold maxLen;omega,fun i hi=>by simp at hi⟩

def Ys:List Int→List Upd→List Int
 |xs,[]=>xs
 |xs,u::r=>Ys (Ja xs u.author) r
def Xf(n:Int):List Int→List Upd→Int
 |_,[]=>0
 |xs,u::r=>if Yz u xs n=0 then Xf n (Ja xs u.author) r else Yz u xs n
def atL(n:Int):List Int→List Upd→Nat
 |_,[]=>0
 |xs,u::r=>if Yz u xs n=0 then atL n (Ja xs u.author) r+1 else 0

theorem xJ:∀(l:List Upd) (xs:List Int),(Ys xs l).length=xs.length
 |[],_=>rfl
 |u::r,xs=>by rw[Ys,xJ r,Jg]
theorem tickL_append:∀(a b:List Upd) (xs:List Int),Ys xs (a++b)=Ys (Ys xs a) b
 |[],_,_=>rfl
 |u::a,b,xs=>by rw[List.cons_append,Ys,tickL_append a b,Ys]
theorem yG(n:Int):∀(a b:List Upd) (xs:List Int),Xf n xs (a++b)=if Xf n xs a=0 then Xf n (Ys xs a) b else Xf n xs a
 |[],b,xs=>by simp[Xf,Ys]
 |u::a,b,xs=>by
  rw[List.cons_append,Xf,Xf,Ys]
  split
  ·exact yG n a b _
  rfl
theorem atL_append(n:Int):∀(a b:List Upd) (xs:List Int),atL n xs (a++b)=if Xf n xs a=0 then a.length+atL n (Ys xs a) b else atL n xs a
 |[],b,xs=>by simp[Xf,Ys]
 |u::a,b,xs=>by
  rw[List.cons_append,atL,Xf,Ys,atL]
  split
  ·rw[atL_append n a b _]
   split
   ·simp;omega
   rfl
  rfl
theorem split_at{l:List Upd}{k:Nat}{u:Upd}(h:l[k]? =some u):l=l.take k++u::l.drop (k+1):=by
 obtain⟨hk,rfl⟩:=List.getElem?_eq_some_iff.1 h;rw[←List.drop_eq_getElem_cons hk,List.take_append_drop]
theorem take_one{l:List Upd}{k:Nat}{u:Upd}(h:l[k]? =some u):l.take (k+1)=l.take k++[u]:=by
 obtain⟨hk,rfl⟩:=List.getElem?_eq_some_iff.1 h;exact List.take_succ_eq_append_getElem hk
theorem errL_step{n:Int}{xs:List Int}{l:List Upd}{k:Nat}{u:Upd}(h:l[k]? =some u)(h0:Xf n xs (l.take k)=0)(hw:Yz u (Ys xs (l.take k)) n=0):
  Xf n xs (l.take (k+1))=0∧Ys xs (l.take (k+1))=Ja (Ys xs (l.take k)) u.author:=by
 rw[take_one h,yG,tickL_append,if_pos h0]
 simp[Xf,Ys,hw]
theorem errL_stop{n:Int}{xs:List Int}{l:List Upd}{k:Nat}{u:Upd}(h:l[k]? =some u)(h0:Xf n xs (l.take k)=0)(hw:Yz u (Ys xs (l.take k)) n≠0):
  Xf n xs l=Yz u (Ys xs (l.take k)) n∧atL n xs l=k:=by
 have hk:k<l.length:=(List.getElem?_eq_some_iff.1 h).1;rw[split_at h,yG,atL_append];have e1:(l.take k++u::l.drop (k+1)).take k=l.take k:=by rw[←split_at h]
 rw[if_pos h0,if_pos h0]
 simp[Xf,atL,hw,List.length_take]
 constructor
 ·congr 2
  simp[List.length_take,Nat.min_eq_left (Nat.le_of_lt hk)]
 omega

def Xb(xs:List Int)(l:List Upd)(n:Int):Int:=if Zn xs n≠0 then Zn xs n else if 300<l.length then 5 else Xf n xs l
def Vg(xs:List Int)(l:List Upd)(n:Int):Int:=if Zn xs n≠0 then 0 else if 300<l.length then 0 else if Xf n xs l=0 then 0 else atL n xs l
def Vf(xs:List Int)(l:List Upd)(n:Int):List Int:=if Xb xs l n=0 then Ys xs l else[]

theorem Ym{P:Program}{fn:Func}{p q:Tmp}{ty:TypeId}(h:fn.results=#[.tmp q,.cell p ty])(tmps:Array Value)(w:World)(g:Nat)(t:TypeId)(cs:Array Value)(fr:Nat×Nat)(d:TypeDesc)
  (hp:tmps.getD p undef=.pointer (some ⟨g,0,none⟩)) (hg:w.heap[g]? =some (.cells cs t fr))
  (hu:P.underlying ty=some d) (hd:(match d with| .struct _| .array _ _=>true|_=>false)=true) (hi:(P.info? ty).map (·.size)=some cs.size):
  (results fn tmps).run P w=.ok (.tuple #[tmps.getD q undef,.agg cs]) w:=by
 have hp':tmps[p]?.getD undef=.pointer (some ⟨g,0,none⟩):=by simpa using hp
 simp[results,h,hp',asAddr,run_loadVar_row w g t ty cs fr d hg hu hd hi]
theorem Tryz.sizeFault:(Tryz.prog.info? 65).map (·.size)=some 2:=by kernel_rfl
theorem Box.set{w:World}{g:Nat}{cs:List Value}{t:TypeId}(h:Box w g cs t)(i:Nat)(v:Value):Box (w.setCell ⟨g,i,none⟩ v) g (cs.set i v) t:=by
 unfold Box at h ⊢;rw[heap_setCell_same w g i _ t v h]
 simp

theorem Jm(w:World)(B:Nat):Own w B (.slice none 0 0) []:=World.ownsRow_nil _ _ _ _
theorem Own.away{w:World}{B:Nat}{v:Value}{xs:List Int}(h:Own w B v xs){g:Nat}(hg:g<B)(i:Nat)(x:Value):Own (w.setCell ⟨g,i,none⟩ x) B v xs:=ownsRow_setCell_below h hg x
theorem zC{v:Value}{E A E' A':Int}(hE:E=E')(hA:A=A'):Ending.returned (.tuple #[v,.agg #[.int .i64 E,.int .i64 A]])=.returned (.tuple #[v,.agg #[.int .i64 E',.int .i64 A']]):=by rw[hE,hA]

set_option maxRecDepth 100000 in
set_option maxHeartbeats 2000000 in
theorem zF(v lv:Value)(xs:List Int)(l:List Upd)(n:Int)(w:World)(h:Row w v xs)(hl:Vh w lv l):
  Calls Tryz.prog 29 #[v,lv,.int .i64 n] w fun e w'=>∃rv,e=.returned (.tuple #[rv,.agg #[.int .i64 (Xb xs l n),.int .i64 (Vg xs l n)]])∧Own w' w.heap.size rv (Vf xs l n)∧Below w.heap.size w w':=by
 have hlen:=hl.len_le;obtain⟨a,cap,rfl,-,-,-⟩:=id h;obtain⟨a',cap',rfl,-,-,-⟩:=id hl;have Z0:=Za (Box.new w [.int .i64 0,.int .i64 0] 65);have HB0:=Za (bpl w (.cells #[.int .i64 0,.int .i64 0] 65));have C0:=Za (h.alloc (.cells #[.int .i64 0,.int .i64 0] 65));have L0:=Za (hl.alloc (.cells #[.int .i64 0,.int .i64 0] 65));clear h hl
 by_cases hw:Zn xs n=0
 ·have HW:=Za hw;have hxl:xs.length≤6:=by have:=Yq hw;omega
  clear hw
  by_cases h300:300<l.length
  ·have HE:Hid (Xb xs l n=5):=by simp[Hid,Xb,HW.out,h300]
   have HA:Hid (Vg xs l n=0):=by simp[Hid,Vg,HW.out,h300]
   have HX:Hid (Vf xs l n=[]):=by simp[Hid,Vf,HE.out]
   rw[HE.out,HA.out,HX.out];have h300':(300:Int)<(l.length:Int):=by omega
   clear HE HA HX
   go_enter Tryz.func29,Tryz.ntmps29
   go_wp2_with fail
   refine(Yk _ xs n _ C0.out).mono ?_;rintro e w' ⟨rfl,hw'⟩;rw[hw'];clear hw' w';rw[HW.out];obtain⟨cZ0,cZ1⟩:=Z0.c2;have f0:=Z0.free 0;have f1:=Z0.free 1
   go_wp2_with fail
   refine bodyPost_ret (Ym rfl _ _ w.heap.size 65 _ (0,0) _ rfl (Box.new w [.int .i64 5,.int .i64 0] 65) Tryz.underlying65 rfl Tryz.sizeFault) rfl ⟨_,rfl,Jm _ _,?_⟩;exact bpl w _
  have HE:Hid (Xb xs l n=Xf n xs l):=by simp[Hid,Xb,HW.out,h300]
  have HA:Hid (Vg xs l n=if Xf n xs l=0 then 0 else(atL n xs l:Int)):=by simp[Hid,Vg,HW.out,h300]
  have HX:Hid (Vf xs l n=if Xf n xs l=0 then Ys xs l else[]):=by simp[Hid,Vf,HE.out]
  obtain⟨E,HEE⟩:∃E,Hid (Xb xs l n=E):=⟨_,rfl⟩;obtain⟨A,HAA⟩:∃A,Hid (Vg xs l n=A):=⟨_,rfl⟩;obtain⟨R,HRR⟩:∃R,Hid (Vf xs l n=R):=⟨_,rfl⟩;rw[HEE.out]at HE;rw[HAA.out]at HA;rw[HRR.out]at HX;rw[HEE.out,HAA.out,HRR.out];clear HEE HAA HRR;have HRR:=HX;clear HX;have h300':¬(300:Int)<(l.length:Int):=by omega
  go_enter Tryz.func29,Tryz.ntmps29
  go_wp2_with fail
  refine(Yk _ xs n _ C0.out).mono ?_;rintro e w' ⟨rfl,hw'⟩;rw[hw'];clear hw' w';rw[HW.out];have hsz:=Z0.lt
  go_wp2_with fail
  refine(Od _ xs _ C0.out (by omega)).mono ?_;rintro e w1 ⟨vS,rfl,ho,hb⟩;have HB1:=Za (Zb HB0.out hb);have Z1:=Za (Z0.below hb (nlr _));have C1:=Za (C0.below hb (nlr _));have L1:=Za (L0.below hb (nlr _));have S1:=Za ho;clear HB0 hb Z0 C0 L0;clear ho;replace S1:=Za (S1.mono hsz);clear hsz
  go_wp2_with fail
  go_loopw [9,28] (fun s i wr=>∃k:Nat,k≤l.length∧i=.int .i64 k∧Hid (Xf n xs (l.take k)=0)∧Hid (Own wr (w.heap.size+1) s (Ys xs (l.take k)))∧Hid (Below w.heap.size w wr)∧Hid (Box wr w.heap.size [.int .i64 0,.int .i64 0] 65)∧Hid (Vh wr (.slice a' l.length cap') l)) (fun _ i _=>l.length - (intOf i).toNat)
  case atStart=>exact⟨0,Nat.zero_le _,rfl,rfl,S1,HB1,Z1,L1⟩
  obtain⟨k,hk,rfl,HK,HS,HB0,Z0,L0⟩:=hrel;obtain⟨w0,rfl⟩:∃w0,w0=wr:=⟨wr,rfl⟩;obtain⟨X,HX⟩:∃X,Hid (Ys xs (l.take k)=X):=⟨_,rfl⟩;rw[HX.out]at HS;have S0:=HS;have hXl:X.length≤6:=by rw[←HX.out,xJ];exact hxl
  clear Z1 C1 L1 HB1 HS S1 w1
  by_cases hlt:k<l.length
  ·obtain⟨u,hu⟩:∃u,l[k]? =some u:=⟨_,List.getElem?_eq_getElem hlt⟩;obtain⟨c1,c2,hv,hc2,hc3,hcell⟩:=L0.out;obtain⟨b,off,rfl,sv,hsv,d0,d1,d2,d3,d4⟩:=hcell k u hu;obtain⟨a5,cap5,rfl,-,-,-⟩:=id hsv;simp only[Value.slice.injEq]at hv;obtain⟨rfl,-,rfl⟩:=hv;have U0:Hid (Jf w0 (.agg #[.int .i64 u.author,.slice a5 u.seen.length cap5,.int .i64 u.kind,.int .i64 u.key,.int .i64 u.item]) u):=⟨_,rfl,hsv⟩;clear hcell hc2 hc3 hsv;have hlt':(k:Int)<(l.length:Int):=by omega
   obtain⟨m,HM⟩:∃m,Hid (Yz u X n=m):=⟨_,rfl⟩
   by_cases hm:m=0
   ·subst hm;have HB1:=Za (Zb HB0.out (bpl w0 (.cells #[.int .i64 u.author,.slice a5 u.seen.length cap5,.int .i64 u.kind,.int .i64 u.key,.int .i64 u.item] 33)));have Z1:=Za (Z0.below (bpl w0 (.cells #[.int .i64 u.author,.slice a5 u.seen.length cap5,.int .i64 u.kind,.int .i64 u.key,.int .i64 u.item] 33)) (nlr _));have L1:=Za (L0.below (bpl w0 (.cells #[.int .i64 u.author,.slice a5 u.seen.length cap5,.int .i64 u.kind,.int .i64 u.key,.int .i64 u.item] 33)) (nlr _));have S1:=Za (S0.below (bpl w0 (.cells #[.int .i64 u.author,.slice a5 u.seen.length cap5,.int .i64 u.kind,.int .i64 u.key,.int .i64 u.item] 33)) (nlr _));have U1:=Za (U0.below (bpl w0 (.cells #[.int .i64 u.author,.slice a5 u.seen.length cap5,.int .i64 u.kind,.int .i64 u.key,.int .i64 u.item] 33)) (nlr _));have V1:=Za (Box.new w0 [.int .i64 u.author,.slice a5 u.seen.length cap5,.int .i64 u.kind,.int .i64 u.key,.int .i64 u.item] 33);clear HB0 Z0 L0 S0 U0
    go_wp2_with fail
    refine(wrong_log _ _ u X n _ U1.out S1.row).mono ?_;rintro e w2 ⟨rfl,hb⟩;have HB2:=Za (Zb HB1.out hb);have Z2:=Za (Z1.below hb (nlr _));have L2:=Za (L1.below hb (nlr _));have S2:=Za (S1.below hb (nlr _));have U2:=Za (U1.below hb (nlr _));have V2:=Za (V1.below hb (nlr _));clear HB1 hb Z1 L1 S1 U1 V1;rw[HM.out];have cV0:=V2.get 0 rfl;have hsz:=Z2.lt
    go_wp2_with fail
    refine(tick_clock _ X u.author _ S2.row (by omega)).mono ?_;rintro e w3 ⟨vT,rfl,ho,hb⟩;have HB3:=Za (Zb HB2.out hb);have Z3:=Za (Z2.below hb (nlr _));have L3:=Za (L2.below hb (nlr _));have S3:=Za (S2.below hb (nlr _));have U3:=Za (U2.below hb (nlr _));have V3:=Za (V2.below hb (nlr _));have T3:=Za ho;clear HB2 hb Z2 L2 S2 U2 V2;clear ho
    go_wp2_with fail
    obtain⟨e1,e2⟩:=errL_step hu HK.out (by rw[HX.out];exact HM.out)
    go_roundw
    case rel=>exact⟨k+1,by omega,by go_num,e1,by rw[e2,HX.out];exact T3.mono hsz,HB3.out,Z3.out,L3.out⟩
    case measure=>simp[intOf];omega
   have hm':(m != 0)=true:=by simp[hm]
   obtain⟨e1,e2⟩:=errL_stop hu HK.out (by rw[HX.out,HM.out];exact hm);rw[HX.out,HM.out]at e1;have E1:=Za e1;have E2:=Za e2;have hmm:=Za hm;clear e1 e2 hm;have HB1:=Za (Zb HB0.out (bpl w0 (.cells #[.int .i64 u.author,.slice a5 u.seen.length cap5,.int .i64 u.kind,.int .i64 u.key,.int .i64 u.item] 33)));have Z1:=Za (Z0.below (bpl w0 (.cells #[.int .i64 u.author,.slice a5 u.seen.length cap5,.int .i64 u.kind,.int .i64 u.key,.int .i64 u.item] 33)) (nlr _));have L1:=Za (L0.below (bpl w0 (.cells #[.int .i64 u.author,.slice a5 u.seen.length cap5,.int .i64 u.kind,.int .i64 u.key,.int .i64 u.item] 33)) (nlr _));have S1:=Za (S0.below (bpl w0 (.cells #[.int .i64 u.author,.slice a5 u.seen.length cap5,.int .i64 u.kind,.int .i64 u.key,.int .i64 u.item] 33)) (nlr _));have U1:=Za (U0.below (bpl w0 (.cells #[.int .i64 u.author,.slice a5 u.seen.length cap5,.int .i64 u.kind,.int .i64 u.key,.int .i64 u.item] 33)) (nlr _));have V1:=Za (Box.new w0 [.int .i64 u.author,.slice a5 u.seen.length cap5,.int .i64 u.kind,.int .i64 u.key,.int .i64 u.item] 33);clear HB0 Z0 L0 S0 U0
   go_wp2_with fail
   refine(wrong_log _ _ u X n _ U1.out S1.row).mono ?_;rintro e w2 ⟨rfl,hb⟩;have HB2:=Za (Zb HB1.out hb);have Z2:=Za (Z1.below hb (nlr _));have L2:=Za (L1.below hb (nlr _));have S2:=Za (S1.below hb (nlr _));have U2:=Za (U1.below hb (nlr _));have V2:=Za (V1.below hb (nlr _));clear HB1 hb Z1 L1 S1 U1 V1;rw[HM.out];obtain⟨cZ0,cZ1⟩:=Z2.c2;have f0:=Z2.free 0;have f1:=Z2.free 1
   go_wp2_with fail
   have hZ:=(Z2.set 0 (.int .i64 m)).set 1 (.int .i64 k);refine bodyPost_ret (Ym rfl _ _ w.heap.size 65 _ (0,0) _ rfl hZ Tryz.underlying65 rfl Tryz.sizeFault) rfl ⟨_,zC (by rw[HE.out,E1.out]) (by rw[HA.out,E1.out,E2.out,if_neg hmm.out]),by rw[HRR.out,E1.out,if_neg hmm.out];exact Jm _ _,?_⟩
   exact(HB2.setCell (nlr _) _).setCell (nlr _) _
  have hkl:l.take k=l:=List.take_of_length_le (by omega);rw[hkl]at HK HX;have hlt':¬(k:Int)<(l.length:Int):=by omega
  obtain⟨c0,c1⟩:=Z0.c2;have f0:=Z0.free 0;have f1:=Z0.free 1
  go_wp2_with fail
  have hZ:=(Z0.set 0 (.int .i64 0)).set 1 (.int .i64 0);refine bodyPost_ret (Ym rfl _ _ w.heap.size 65 _ (0,0) _ rfl hZ Tryz.underlying65 rfl Tryz.sizeFault) rfl ⟨_,zC (by rw[HE.out,HK.out]) (by rw[HA.out,HK.out,if_pos rfl]),?_,?_⟩
  ·rw[HRR.out,HK.out,if_pos rfl,HX.out];exact Own.mono ((S0.away (Nat.lt_succ_self _) _ _).away (Nat.lt_succ_self _) _ _) (Nat.le_succ _)
  exact(HB0.setCell (nlr _) _).setCell (nlr _) _
 have HE:Hid (Xb xs l n=Zn xs n):=by simp[Hid,Xb,hw]
 have HA:Hid (Vg xs l n=0):=by simp[Hid,Vg,hw]
 have HX:Hid (Vf xs l n=[]):=by simp[Hid,Vf,HE.out,hw]
 rw[HE.out,HA.out,HX.out];have hne:(Zn xs n != 0)=true:=by simp[hw]
 clear HE HA HX hw;obtain⟨m,HM⟩:∃m,Hid (Zn xs n=m):=⟨_,rfl⟩;rw[HM.out]at hne ⊢
 go_enter Tryz.func29,Tryz.ntmps29
 go_wp2_with fail
 refine(Yk _ xs n _ C0.out).mono ?_;rintro e w' ⟨rfl,hw'⟩;rw[hw'];clear hw' w';rw[HM.out];obtain⟨cZ0,cZ1⟩:=Z0.c2;have f0:=Z0.free 0;have f1:=Z0.free 1
 go_wp2_with fail
 refine bodyPost_ret (Ym rfl _ _ w.heap.size 65 _ (0,0) _ rfl (Box.new w [.int .i64 m,.int .i64 0] 65) Tryz.underlying65 rfl Tryz.sizeFault) rfl ⟨_,rfl,Jm _ _,?_⟩;exact bpl w _
end Go.Proofs.YtfhecilhcofboaaGreat
