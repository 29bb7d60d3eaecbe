/- The document's own answer, chapter 4: Wrong. -/
import Derived.Test.YtfhecilhcofboaaGreatRfA
namespace Go.Proofs.YtfhecilhcofboaaGreat
open Go.RowKit

set_option maxRecDepth 100000 in
set_option maxHeartbeats 1000000 in
theorem Qr(e i:Int)(g:Nat)(w:World)(h:Box w g [.int .i64 i] 3):
  Calls Tryz.prog 73 #[.int .i64 e,.pointer (some ⟨g,0,none⟩)] w fun e' w'=>e'=.returned (.agg #[.int .i64 e,.int .i64 i])∧Below w.heap.size w w':=by
 have c0:=h.get 0 rfl;have hlt:=h.lt;have n1:¬(w.heap.size=g):=by omega
 have n2:¬(g=w.heap.size):=by omega
 have c1:=(h.plus (.cells #[.int .i64 0,.int .i64 0] 65)).get 0 rfl
 go_enter Tryz.func73,Tryz.ntmps73
 go_wp2_with fail
 have hR:=Box.new w [.int .i64 e,.int .i64 i] 65;refine bodyPost_ret (results_cell_row rfl _ _ w.heap.size 65 _ (0,0) _ rfl hR Tryz.underlying65 rfl Tryz.sizeFault) rfl ⟨rfl,bpl w _⟩
set_option maxRecDepth 100000 in
set_option maxHeartbeats 1000000 in
theorem Os(e i:Int)(g:Nat)(w:World)(h:Box w g [.int .i64 i] 3):
  Calls Tryz.prog 75 #[.int .i64 e,.pointer (some ⟨g,0,none⟩)] w fun e' w'=>e'=.returned (.agg #[.int .i64 e,.int .i64 i])∧Below w.heap.size w w':=by
 have c0:=h.get 0 rfl;have hlt:=h.lt;have n1:¬(w.heap.size=g):=by omega
 have n2:¬(g=w.heap.size):=by omega
 have c1:=(h.plus (.cells #[.int .i64 0,.int .i64 0] 65)).get 0 rfl
 go_enter Tryz.func75,Tryz.ntmps75
 go_wp2_with fail
 have hR:=Box.new w [.int .i64 e,.int .i64 i] 65;refine bodyPost_ret (results_cell_row rfl _ _ w.heap.size 65 _ (0,0) _ rfl hR Tryz.underlying65 rfl Tryz.sizeFault) rfl ⟨rfl,bpl w _⟩
theorem Jk{s:StS}{n:Int}{p:Option Zk}{x:Zk}{r:List Zk}{k:Nat}{e:Int}(hC:Zn s.clock n=0)(hE:Vr (Zo s.clock) Yj s.lives=goE (Zo s.clock) Yj p (x::r))(hA:zO (Zo s.clock) Yj s.lives=if Vr (Zo s.clock) Yj s.lives=0 then 0 else((k+goA (Zo s.clock) Yj p (x::r):Nat):Int))
  (hg:goE (Zo s.clock) Yj p (x::r)=e∧goA (Zo s.clock) Yj p (x::r)=0) (he:e≠0):stE s n=e∧stA s n=k:=by
 rw[hg.1]at hE;unfold stE stA;rw[hA,hE,hg.2,hC]
 simp[he]
theorem Uw{c:List Int}{x:Zk}{n:Int}(hn:(c.length:Int)=n)(h:x.author<0∨n≤x.author∨x.seq<1∨x.key<0∨15<x.key∨x.item< -1000∨1000<x.item):Zo c x=3:=by
 unfold Zo Oa Xo;rw[if_pos];rw[hn];simp only[decide_eq_false_iff_not];omega
theorem range_ok{c:List Int}{x:Zk}{n:Int}(hn:(c.length:Int)=n)(h:¬(x.author<0∨n≤x.author∨x.seq<1∨x.key<0∨15<x.key∨x.item< -1000∨1000<x.item)):Zo c x=if c.getD x.author.toNat 0<x.seq then 8 else 0:=by
 unfold Zo Oa Xo Vy;rw[if_neg]
 ·by_cases h2:c.getD x.author.toNat 0<x.seq
  ·rw[if_pos h2,if_neg];rw[decide_eq_true_iff];omega
  rw[if_neg h2,if_pos];rw[decide_eq_true_iff];omega
 rw[hn];simp only[decide_eq_false_iff_not];omega
theorem Qd{s:StS}{n:Int}{p:Option Tal}{x:Tal}{r:List Tal}{k:Nat}{e:Int}(hC:Zn s.clock n=0)(hL:Vr (Zo s.clock) Yj s.lives=0)(hE:Vr (Zq s.clock) Yr s.tals=goE (Zq s.clock) Yr p (x::r))(hA:zO (Zq s.clock) Yr s.tals=if Vr (Zq s.clock) Yr s.tals=0 then 0 else((k+goA (Zq s.clock) Yr p (x::r):Nat):Int))
  (hg:goE (Zq s.clock) Yr p (x::r)=e∧goA (Zq s.clock) Yr p (x::r)=0) (he:e≠0):stE s n=e∧stA s n=k:=by
 rw[hg.1]at hE;unfold stE stA;rw[hA,hE,hg.2,hC,hL]
 simp[he]
theorem fault_none{s:StS}{n:Int}(hC:Zn s.clock n=0)(hL:Vr (Zo s.clock) Yj s.lives=0)(hE:Vr (Zq s.clock) Yr s.tals=0):stE s n=0∧stA s n=0:=by
 unfold stE stA;rw[hC,hL,hE];unfold Vr at hE;unfold zO;rw[hE]
 simp
theorem lessB_ge{a b:Tal}:0≤Yr a b↔lessB a b=false:=by
 have h:=@Qq a b;rw[←lessB_iff]at h
 cases hb:lessB a b
 ·rw[hb]at h;simp at h;simp;exact h
 rw[hb]at h;simp at h;simp;omega
set_option maxRecDepth 100000 in
set_option maxHeartbeats 6000000 in
theorem Jx(v:Value)(s:StS)(n:Int)(w:World)(h:Jp w v s):
  Calls Tryz.prog 32 #[v,.int .i64 n] w fun e w'=>e=.returned (.agg #[.int .i64 (stE s n),.int .i64 (stA s n)])∧Below w.heap.size w w':=by
 obtain⟨cv,lv,tv,rfl,hc,hv,ht⟩:=h;obtain⟨a1,cap1,rfl,-,-,-⟩:=id hc;obtain⟨a2,cap2,rfl,-,-,-⟩:=id hv;obtain⟨a3,cap3,rfl,-,-,-⟩:=id ht;have hb0:=Below.plus (bpl w (.cells #[.slice a1 s.clock.length cap1,.slice a2 s.lives.length cap2,.slice a3 s.tals.length cap3] 27)) (.cells #[.int .i64 0,.int .i64 0] 65);have C0:=Za (hc.below hb0 (nlr _));have L0:=Za (hv.below hb0 (nlr _));have T0:=Za (ht.below hb0 (nlr _));have G0:=Za ((Box.new w [.slice a1 s.clock.length cap1,.slice a2 s.lives.length cap2,.slice a3 s.tals.length cap3] 27).plus (.cells #[.int .i64 0,.int .i64 0] 65));have R0:=Za (Box.new (w.alloc (.cells #[.slice a1 s.clock.length cap1,.slice a2 s.lives.length cap2,.slice a3 s.tals.length cap3] 27)) [.int .i64 0,.int .i64 0] 65);simp only[World.size_alloc]at R0;have HB0:=Za hb0;clear hc hv ht hb0;obtain⟨E1,HE1⟩:∃E1,Hid (Zn s.clock n=E1):=⟨_,rfl⟩;obtain⟨E,HSE⟩:∃E,Hid (stE s n=E):=⟨_,rfl⟩;obtain⟨A,HSA⟩:∃A,Hid (stA s n=A):=⟨_,rfl⟩;rw[HSE.out,HSA.out]
 by_cases hE:E1=0
 ·subst hE
  go_enter Tryz.func32,Tryz.ntmps32
  obtain⟨cG0,cG1,cG2⟩:=G0.c3
  go_wp2_with fail
  refine(Xy _ s.clock n _ C0.out).mono ?_;rintro e w' ⟨rfl,hw'⟩;rw[hw'];clear hw' w';rw[HE1.out]
  go_wp2_with fail
  obtain⟨W0,HW0⟩:∃W0,Hid ((w.alloc (.cells #[.slice a1 s.clock.length cap1,.slice a2 s.lives.length cap2,.slice a3 s.tals.length cap3] 27)).alloc (.cells #[.int .i64 0,.int .i64 0] 65)=W0):=⟨_,rfl⟩;rw[HW0.out]at C0 L0 T0 G0 R0 HB0 ⊢;clear cG0 cG1 cG2;have hlen:=L0.len_le;have HLN:Hid ((s.clock.length:Int)=n):=(Zm.1 HE1.out).2.2.1
  go_loopw [23] (fun i wr=>∃(k:Nat) (p:Option Zk),k≤s.lives.length∧i=.int .i64 k∧Hid (Vr (Zo s.clock) Yj s.lives=goE (Zo s.clock) Yj p (s.lives.drop k))∧Hid (zO (Zo s.clock) Yj s.lives=if Vr (Zo s.clock) Yj s.lives=0 then 0 else((k+goA (Zo s.clock) Yj p (s.lives.drop k):Nat):Int))∧Hid ((p=none∧k=0)∨∃m y,k=m+1∧s.lives[m]? =some y∧p=some y)∧Hid (Below W0.heap.size W0 wr)) (fun i _=>s.lives.length - (intOf i).toNat)
  case atStart=>exact⟨0,none,Nat.zero_le _,rfl,rfl,by rw[List.drop_zero,Nat.zero_add];exact rfl,.inl ⟨rfl,rfl⟩,Za (Below.refl _ _)⟩
  obtain⟨k,p,hk,rfl,HE,HA,HP,HB20⟩:=hrel;obtain⟨w20,rfl⟩:∃w20,w20=wr:=⟨wr,rfl⟩;have C20:=Za (C0.below HB20.out (nlr _));have L20:=Za (L0.below HB20.out (nlr _));have G20:=Za (G0.below HB20.out (nlr _));have R20:=Za (R0.below HB20.out (nlr _));have HRL:=Za R20.lt
  by_cases hlt:k<s.lives.length
  ·obtain⟨x,hx⟩:∃x,s.lives[k]? =some x:=⟨_,List.getElem?_eq_getElem hlt⟩;obtain⟨b,off,hab,d0,d1,d2,d3,d4⟩:=Va L20.out hx;subst hab;have HD:=Za (drop_at hx);rw[HD.out]at HE HA;have hlt':(k:Int)<(s.lives.length:Int):=by omega
   by_cases hA0:x.author<0
   ·have hwr:Zo s.clock x=3:=Uw HLN.out (.inl hA0);obtain⟨hse,hsa⟩:=Jk HE1.out HE.out HA.out (by have hq:=Ub (wr:=Zo s.clock) (cm:=Yj) (p:=p) (r:=s.lives.drop (k+1)) (x:=x) (by rw[hwr];omega);rw[hwr]at hq;exact hq) (by omega);rw[HSE.out]at hse;rw[HSA.out]at hsa;subst hse hsa;clear HE HA HP;have HB21:=Za (Zb HB20.out (bpl w20 (.cells #[.int .i64 (k:Int)] 3)));have R21:=Za (R20.below (bpl w20 (.cells #[.int .i64 (k:Int)] 3)) (nlr _));have I21:=Za (Box.new w20 [.int .i64 (k:Int)] 3);clear HB20 R20;have HB22:=Za (Zb HB21.out (Below.plus (Below.refl _ (w20.alloc (.cells #[.int .i64 (k:Int)] 3))) (.cells #[.bool x.set,.int .i64 x.key,.int .i64 x.item,.int .i64 x.author,.int .i64 x.seq] 106)));have R22:=Za (R21.below (Below.plus (Below.refl _ (w20.alloc (.cells #[.int .i64 (k:Int)] 3))) (.cells #[.bool x.set,.int .i64 x.key,.int .i64 x.item,.int .i64 x.author,.int .i64 x.seq] 106)) (nlr _));have I22:=Za (I21.below (Below.plus (Below.refl _ (w20.alloc (.cells #[.int .i64 (k:Int)] 3))) (.cells #[.bool x.set,.int .i64 x.key,.int .i64 x.item,.int .i64 x.author,.int .i64 x.seq] 106)) (nlr _));have V22:=Za (Box.new (w20.alloc (.cells #[.int .i64 (k:Int)] 3)) [.bool x.set,.int .i64 x.key,.int .i64 x.item,.int .i64 x.author,.int .i64 x.seq] 106);clear HB21 R21 I21;simp only[World.size_alloc]at V22
    go_wp2_with fail
    refine(Qr 3 k _ _ I22.out).mono ?_;rintro e w23 ⟨rfl,hb⟩;have HB23:=Za (Zb HB22.out hb);have R23:=Za (R22.below hb (nlr _));have I23:=Za (I22.below hb (nlr _));have V23:=Za (V22.below hb (nlr _));clear HB22 hb R22 I22 V22;obtain⟨cR0,cR1⟩:=R23.c2;have f0:=R23.free 0;have f1:=R23.free 1
    go_wp2_with fail
    have hR:=(R23.set 0 (.int .i64 3)).set 1 (.int .i64 (k:Int));refine bodyPost_ret (results_cell_row rfl _ _ (w.heap.size+1) 65 _ (0,0) _ rfl hR Tryz.underlying65 rfl Tryz.sizeFault) rfl ⟨rfl,?_⟩
    exact((HB0.trans (HB23.mono HB0.size)).setCell (by show w.heap.size≤w.heap.size+1;omega) _).setCell (by show w.heap.size≤w.heap.size+1;omega) _
   skip
   by_cases hA1:n≤x.author
   ·have hwr:Zo s.clock x=3:=Uw HLN.out (.inr (.inl hA1));obtain⟨hse,hsa⟩:=Jk HE1.out HE.out HA.out (by have hq:=Ub (wr:=Zo s.clock) (cm:=Yj) (p:=p) (r:=s.lives.drop (k+1)) (x:=x) (by rw[hwr];omega);rw[hwr]at hq;exact hq) (by omega);rw[HSE.out]at hse;rw[HSA.out]at hsa;subst hse hsa;clear HE HA HP;have HB21:=Za (Zb HB20.out (bpl w20 (.cells #[.int .i64 (k:Int)] 3)));have R21:=Za (R20.below (bpl w20 (.cells #[.int .i64 (k:Int)] 3)) (nlr _));have I21:=Za (Box.new w20 [.int .i64 (k:Int)] 3);clear HB20 R20;have HB22:=Za (Zb HB21.out (Below.plus (Below.refl _ (w20.alloc (.cells #[.int .i64 (k:Int)] 3))) (.cells #[.bool x.set,.int .i64 x.key,.int .i64 x.item,.int .i64 x.author,.int .i64 x.seq] 106)));have R22:=Za (R21.below (Below.plus (Below.refl _ (w20.alloc (.cells #[.int .i64 (k:Int)] 3))) (.cells #[.bool x.set,.int .i64 x.key,.int .i64 x.item,.int .i64 x.author,.int .i64 x.seq] 106)) (nlr _));have I22:=Za (I21.below (Below.plus (Below.refl _ (w20.alloc (.cells #[.int .i64 (k:Int)] 3))) (.cells #[.bool x.set,.int .i64 x.key,.int .i64 x.item,.int .i64 x.author,.int .i64 x.seq] 106)) (nlr _));have V22:=Za (Box.new (w20.alloc (.cells #[.int .i64 (k:Int)] 3)) [.bool x.set,.int .i64 x.key,.int .i64 x.item,.int .i64 x.author,.int .i64 x.seq] 106);clear HB21 R21 I21;simp only[World.size_alloc]at V22
    go_wp2_with fail
    refine(Qr 3 k _ _ I22.out).mono ?_;rintro e w23 ⟨rfl,hb⟩;have HB23:=Za (Zb HB22.out hb);have R23:=Za (R22.below hb (nlr _));have I23:=Za (I22.below hb (nlr _));have V23:=Za (V22.below hb (nlr _));clear HB22 hb R22 I22 V22;obtain⟨cR0,cR1⟩:=R23.c2;have f0:=R23.free 0;have f1:=R23.free 1
    go_wp2_with fail
    have hR:=(R23.set 0 (.int .i64 3)).set 1 (.int .i64 (k:Int));refine bodyPost_ret (results_cell_row rfl _ _ (w.heap.size+1) 65 _ (0,0) _ rfl hR Tryz.underlying65 rfl Tryz.sizeFault) rfl ⟨rfl,?_⟩
    exact((HB0.trans (HB23.mono HB0.size)).setCell (by show w.heap.size≤w.heap.size+1;omega) _).setCell (by show w.heap.size≤w.heap.size+1;omega) _
   skip
   by_cases hQ:x.seq<1
   ·have hwr:Zo s.clock x=3:=Uw HLN.out (.inr (.inr (.inl hQ)));obtain⟨hse,hsa⟩:=Jk HE1.out HE.out HA.out (by have hq:=Ub (wr:=Zo s.clock) (cm:=Yj) (p:=p) (r:=s.lives.drop (k+1)) (x:=x) (by rw[hwr];omega);rw[hwr]at hq;exact hq) (by omega);rw[HSE.out]at hse;rw[HSA.out]at hsa;subst hse hsa;clear HE HA HP;have HB21:=Za (Zb HB20.out (bpl w20 (.cells #[.int .i64 (k:Int)] 3)));have R21:=Za (R20.below (bpl w20 (.cells #[.int .i64 (k:Int)] 3)) (nlr _));have I21:=Za (Box.new w20 [.int .i64 (k:Int)] 3);clear HB20 R20;have HB22:=Za (Zb HB21.out (Below.plus (Below.refl _ (w20.alloc (.cells #[.int .i64 (k:Int)] 3))) (.cells #[.bool x.set,.int .i64 x.key,.int .i64 x.item,.int .i64 x.author,.int .i64 x.seq] 106)));have R22:=Za (R21.below (Below.plus (Below.refl _ (w20.alloc (.cells #[.int .i64 (k:Int)] 3))) (.cells #[.bool x.set,.int .i64 x.key,.int .i64 x.item,.int .i64 x.author,.int .i64 x.seq] 106)) (nlr _));have I22:=Za (I21.below (Below.plus (Below.refl _ (w20.alloc (.cells #[.int .i64 (k:Int)] 3))) (.cells #[.bool x.set,.int .i64 x.key,.int .i64 x.item,.int .i64 x.author,.int .i64 x.seq] 106)) (nlr _));have V22:=Za (Box.new (w20.alloc (.cells #[.int .i64 (k:Int)] 3)) [.bool x.set,.int .i64 x.key,.int .i64 x.item,.int .i64 x.author,.int .i64 x.seq] 106);clear HB21 R21 I21;simp only[World.size_alloc]at V22
    go_wp2_with fail
    refine(Qr 3 k _ _ I22.out).mono ?_;rintro e w23 ⟨rfl,hb⟩;have HB23:=Za (Zb HB22.out hb);have R23:=Za (R22.below hb (nlr _));have I23:=Za (I22.below hb (nlr _));have V23:=Za (V22.below hb (nlr _));clear HB22 hb R22 I22 V22;obtain⟨cR0,cR1⟩:=R23.c2;have f0:=R23.free 0;have f1:=R23.free 1
    go_wp2_with fail
    have hR:=(R23.set 0 (.int .i64 3)).set 1 (.int .i64 (k:Int));refine bodyPost_ret (results_cell_row rfl _ _ (w.heap.size+1) 65 _ (0,0) _ rfl hR Tryz.underlying65 rfl Tryz.sizeFault) rfl ⟨rfl,?_⟩
    exact((HB0.trans (HB23.mono HB0.size)).setCell (by show w.heap.size≤w.heap.size+1;omega) _).setCell (by show w.heap.size≤w.heap.size+1;omega) _
   skip
   by_cases hK0:x.key<0
   ·have hwr:Zo s.clock x=3:=Uw HLN.out (.inr (.inr (.inr (.inl hK0))));obtain⟨hse,hsa⟩:=Jk HE1.out HE.out HA.out (by have hq:=Ub (wr:=Zo s.clock) (cm:=Yj) (p:=p) (r:=s.lives.drop (k+1)) (x:=x) (by rw[hwr];omega);rw[hwr]at hq;exact hq) (by omega);rw[HSE.out]at hse;rw[HSA.out]at hsa;subst hse hsa;clear HE HA HP;have HB21:=Za (Zb HB20.out (bpl w20 (.cells #[.int .i64 (k:Int)] 3)));have R21:=Za (R20.below (bpl w20 (.cells #[.int .i64 (k:Int)] 3)) (nlr _));have I21:=Za (Box.new w20 [.int .i64 (k:Int)] 3);clear HB20 R20;have HB22:=Za (Zb HB21.out (Below.plus (Below.refl _ (w20.alloc (.cells #[.int .i64 (k:Int)] 3))) (.cells #[.bool x.set,.int .i64 x.key,.int .i64 x.item,.int .i64 x.author,.int .i64 x.seq] 106)));have R22:=Za (R21.below (Below.plus (Below.refl _ (w20.alloc (.cells #[.int .i64 (k:Int)] 3))) (.cells #[.bool x.set,.int .i64 x.key,.int .i64 x.item,.int .i64 x.author,.int .i64 x.seq] 106)) (nlr _));have I22:=Za (I21.below (Below.plus (Below.refl _ (w20.alloc (.cells #[.int .i64 (k:Int)] 3))) (.cells #[.bool x.set,.int .i64 x.key,.int .i64 x.item,.int .i64 x.author,.int .i64 x.seq] 106)) (nlr _));have V22:=Za (Box.new (w20.alloc (.cells #[.int .i64 (k:Int)] 3)) [.bool x.set,.int .i64 x.key,.int .i64 x.item,.int .i64 x.author,.int .i64 x.seq] 106);clear HB21 R21 I21;simp only[World.size_alloc]at V22
    go_wp2_with fail
    refine(Qr 3 k _ _ I22.out).mono ?_;rintro e w23 ⟨rfl,hb⟩;have HB23:=Za (Zb HB22.out hb);have R23:=Za (R22.below hb (nlr _));have I23:=Za (I22.below hb (nlr _));have V23:=Za (V22.below hb (nlr _));clear HB22 hb R22 I22 V22;obtain⟨cR0,cR1⟩:=R23.c2;have f0:=R23.free 0;have f1:=R23.free 1
    go_wp2_with fail
    have hR:=(R23.set 0 (.int .i64 3)).set 1 (.int .i64 (k:Int));refine bodyPost_ret (results_cell_row rfl _ _ (w.heap.size+1) 65 _ (0,0) _ rfl hR Tryz.underlying65 rfl Tryz.sizeFault) rfl ⟨rfl,?_⟩
    exact((HB0.trans (HB23.mono HB0.size)).setCell (by show w.heap.size≤w.heap.size+1;omega) _).setCell (by show w.heap.size≤w.heap.size+1;omega) _
   skip
   by_cases hK1:15<x.key
   ·have hwr:Zo s.clock x=3:=Uw HLN.out (.inr (.inr (.inr (.inr (.inl hK1)))));obtain⟨hse,hsa⟩:=Jk HE1.out HE.out HA.out (by have hq:=Ub (wr:=Zo s.clock) (cm:=Yj) (p:=p) (r:=s.lives.drop (k+1)) (x:=x) (by rw[hwr];omega);rw[hwr]at hq;exact hq) (by omega);rw[HSE.out]at hse;rw[HSA.out]at hsa;subst hse hsa;clear HE HA HP;have HB21:=Za (Zb HB20.out (bpl w20 (.cells #[.int .i64 (k:Int)] 3)));have R21:=Za (R20.below (bpl w20 (.cells #[.int .i64 (k:Int)] 3)) (nlr _));have I21:=Za (Box.new w20 [.int .i64 (k:Int)] 3);clear HB20 R20;have HB22:=Za (Zb HB21.out (Below.plus (Below.refl _ (w20.alloc (.cells #[.int .i64 (k:Int)] 3))) (.cells #[.bool x.set,.int .i64 x.key,.int .i64 x.item,.int .i64 x.author,.int .i64 x.seq] 106)));have R22:=Za (R21.below (Below.plus (Below.refl _ (w20.alloc (.cells #[.int .i64 (k:Int)] 3))) (.cells #[.bool x.set,.int .i64 x.key,.int .i64 x.item,.int .i64 x.author,.int .i64 x.seq] 106)) (nlr _));have I22:=Za (I21.below (Below.plus (Below.refl _ (w20.alloc (.cells #[.int .i64 (k:Int)] 3))) (.cells #[.bool x.set,.int .i64 x.key,.int .i64 x.item,.int .i64 x.author,.int .i64 x.seq] 106)) (nlr _));have V22:=Za (Box.new (w20.alloc (.cells #[.int .i64 (k:Int)] 3)) [.bool x.set,.int .i64 x.key,.int .i64 x.item,.int .i64 x.author,.int .i64 x.seq] 106);clear HB21 R21 I21;simp only[World.size_alloc]at V22
    go_wp2_with fail
    refine(Qr 3 k _ _ I22.out).mono ?_;rintro e w23 ⟨rfl,hb⟩;have HB23:=Za (Zb HB22.out hb);have R23:=Za (R22.below hb (nlr _));have I23:=Za (I22.below hb (nlr _));have V23:=Za (V22.below hb (nlr _));clear HB22 hb R22 I22 V22;obtain⟨cR0,cR1⟩:=R23.c2;have f0:=R23.free 0;have f1:=R23.free 1
    go_wp2_with fail
    have hR:=(R23.set 0 (.int .i64 3)).set 1 (.int .i64 (k:Int));refine bodyPost_ret (results_cell_row rfl _ _ (w.heap.size+1) 65 _ (0,0) _ rfl hR Tryz.underlying65 rfl Tryz.sizeFault) rfl ⟨rfl,?_⟩
    exact((HB0.trans (HB23.mono HB0.size)).setCell (by show w.heap.size≤w.heap.size+1;omega) _).setCell (by show w.heap.size≤w.heap.size+1;omega) _
   skip
   by_cases hI0:x.item< -1000
   ·have hwr:Zo s.clock x=3:=Uw HLN.out (.inr (.inr (.inr (.inr (.inr (.inl hI0))))));obtain⟨hse,hsa⟩:=Jk HE1.out HE.out HA.out (by have hq:=Ub (wr:=Zo s.clock) (cm:=Yj) (p:=p) (r:=s.lives.drop (k+1)) (x:=x) (by rw[hwr];omega);rw[hwr]at hq;exact hq) (by omega);rw[HSE.out]at hse;rw[HSA.out]at hsa;subst hse hsa;clear HE HA HP;have HB21:=Za (Zb HB20.out (bpl w20 (.cells #[.int .i64 (k:Int)] 3)));have R21:=Za (R20.below (bpl w20 (.cells #[.int .i64 (k:Int)] 3)) (nlr _));have I21:=Za (Box.new w20 [.int .i64 (k:Int)] 3);clear HB20 R20;have HB22:=Za (Zb HB21.out (Below.plus (Below.refl _ (w20.alloc (.cells #[.int .i64 (k:Int)] 3))) (.cells #[.bool x.set,.int .i64 x.key,.int .i64 x.item,.int .i64 x.author,.int .i64 x.seq] 106)));have R22:=Za (R21.below (Below.plus (Below.refl _ (w20.alloc (.cells #[.int .i64 (k:Int)] 3))) (.cells #[.bool x.set,.int .i64 x.key,.int .i64 x.item,.int .i64 x.author,.int .i64 x.seq] 106)) (nlr _));have I22:=Za (I21.below (Below.plus (Below.refl _ (w20.alloc (.cells #[.int .i64 (k:Int)] 3))) (.cells #[.bool x.set,.int .i64 x.key,.int .i64 x.item,.int .i64 x.author,.int .i64 x.seq] 106)) (nlr _));have V22:=Za (Box.new (w20.alloc (.cells #[.int .i64 (k:Int)] 3)) [.bool x.set,.int .i64 x.key,.int .i64 x.item,.int .i64 x.author,.int .i64 x.seq] 106);clear HB21 R21 I21;simp only[World.size_alloc]at V22
    go_wp2_with fail
    refine(Qr 3 k _ _ I22.out).mono ?_;rintro e w23 ⟨rfl,hb⟩;have HB23:=Za (Zb HB22.out hb);have R23:=Za (R22.below hb (nlr _));have I23:=Za (I22.below hb (nlr _));have V23:=Za (V22.below hb (nlr _));clear HB22 hb R22 I22 V22;obtain⟨cR0,cR1⟩:=R23.c2;have f0:=R23.free 0;have f1:=R23.free 1
    go_wp2_with fail
    have hR:=(R23.set 0 (.int .i64 3)).set 1 (.int .i64 (k:Int));refine bodyPost_ret (results_cell_row rfl _ _ (w.heap.size+1) 65 _ (0,0) _ rfl hR Tryz.underlying65 rfl Tryz.sizeFault) rfl ⟨rfl,?_⟩
    exact((HB0.trans (HB23.mono HB0.size)).setCell (by show w.heap.size≤w.heap.size+1;omega) _).setCell (by show w.heap.size≤w.heap.size+1;omega) _
   skip
   by_cases hI1:1000<x.item
   ·have hwr:Zo s.clock x=3:=Uw HLN.out (.inr (.inr (.inr (.inr (.inr (.inr (hI1)))))));obtain⟨hse,hsa⟩:=Jk HE1.out HE.out HA.out (by have hq:=Ub (wr:=Zo s.clock) (cm:=Yj) (p:=p) (r:=s.lives.drop (k+1)) (x:=x) (by rw[hwr];omega);rw[hwr]at hq;exact hq) (by omega);rw[HSE.out]at hse;rw[HSA.out]at hsa;subst hse hsa;clear HE HA HP;have HB21:=Za (Zb HB20.out (bpl w20 (.cells #[.int .i64 (k:Int)] 3)));have R21:=Za (R20.below (bpl w20 (.cells #[.int .i64 (k:Int)] 3)) (nlr _));have I21:=Za (Box.new w20 [.int .i64 (k:Int)] 3);clear HB20 R20;have HB22:=Za (Zb HB21.out (Below.plus (Below.refl _ (w20.alloc (.cells #[.int .i64 (k:Int)] 3))) (.cells #[.bool x.set,.int .i64 x.key,.int .i64 x.item,.int .i64 x.author,.int .i64 x.seq] 106)));have R22:=Za (R21.below (Below.plus (Below.refl _ (w20.alloc (.cells #[.int .i64 (k:Int)] 3))) (.cells #[.bool x.set,.int .i64 x.key,.int .i64 x.item,.int .i64 x.author,.int .i64 x.seq] 106)) (nlr _));have I22:=Za (I21.below (Below.plus (Below.refl _ (w20.alloc (.cells #[.int .i64 (k:Int)] 3))) (.cells #[.bool x.set,.int .i64 x.key,.int .i64 x.item,.int .i64 x.author,.int .i64 x.seq] 106)) (nlr _));have V22:=Za (Box.new (w20.alloc (.cells #[.int .i64 (k:Int)] 3)) [.bool x.set,.int .i64 x.key,.int .i64 x.item,.int .i64 x.author,.int .i64 x.seq] 106);clear HB21 R21 I21;simp only[World.size_alloc]at V22
    go_wp2_with fail
    refine(Qr 3 k _ _ I22.out).mono ?_;rintro e w23 ⟨rfl,hb⟩;have HB23:=Za (Zb HB22.out hb);have R23:=Za (R22.below hb (nlr _));have I23:=Za (I22.below hb (nlr _));have V23:=Za (V22.below hb (nlr _));clear HB22 hb R22 I22 V22;obtain⟨cR0,cR1⟩:=R23.c2;have f0:=R23.free 0;have f1:=R23.free 1
    go_wp2_with fail
    have hR:=(R23.set 0 (.int .i64 3)).set 1 (.int .i64 (k:Int));refine bodyPost_ret (results_cell_row rfl _ _ (w.heap.size+1) 65 _ (0,0) _ rfl hR Tryz.underlying65 rfl Tryz.sizeFault) rfl ⟨rfl,?_⟩
    exact((HB0.trans (HB23.mono HB0.size)).setCell (by show w.heap.size≤w.heap.size+1;omega) _).setCell (by show w.heap.size≤w.heap.size+1;omega) _
   skip
   have hok:=range_ok (c:=s.clock) (x:=x) HLN.out (by omega);obtain⟨ka,hka⟩:∃ka:Nat,x.author=(ka:Int):=⟨x.author.toNat,by omega⟩;have hkl:ka<s.clock.length:=by have:=HLN.out;omega
   have hA0':¬((ka:Int)<0):=by omega
   have hA1':¬(n≤(ka:Int)):=by omega
   have hkl':(ka:Int)<(s.clock.length:Int):=by omega
   have hk00:(0:Int)≤(ka:Int):=by omega
   rw[hka]at d3;rw[hka,Int.toNat_natCast]at hok;obtain⟨y,HY⟩:∃y,Hid (s.clock.getD ka 0=y):=⟨_,rfl⟩;rw[HY.out]at hok;have HOK:=Za hok;have HKA:=Za hka;clear hok hka hA0 hA1;have HB21:=Za (Zb HB20.out (bpl w20 (.cells #[.int .i64 (k:Int)] 3)));have C21:=Za (C20.below (bpl w20 (.cells #[.int .i64 (k:Int)] 3)) (nlr _));have L21:=Za (L20.below (bpl w20 (.cells #[.int .i64 (k:Int)] 3)) (nlr _));have G21:=Za (G20.below (bpl w20 (.cells #[.int .i64 (k:Int)] 3)) (nlr _));have R21:=Za (R20.below (bpl w20 (.cells #[.int .i64 (k:Int)] 3)) (nlr _));have I21:=Za (Box.new w20 [.int .i64 (k:Int)] 3);clear HB20 C20 L20 G20 R20;have HB22:=Za (Zb HB21.out (Below.plus (Below.refl _ (w20.alloc (.cells #[.int .i64 (k:Int)] 3))) (.cells #[.bool x.set,.int .i64 x.key,.int .i64 x.item,.int .i64 (ka:Int),.int .i64 x.seq] 106)));have C22:=Za (C21.below (Below.plus (Below.refl _ (w20.alloc (.cells #[.int .i64 (k:Int)] 3))) (.cells #[.bool x.set,.int .i64 x.key,.int .i64 x.item,.int .i64 (ka:Int),.int .i64 x.seq] 106)) (nlr _));have L22:=Za (L21.below (Below.plus (Below.refl _ (w20.alloc (.cells #[.int .i64 (k:Int)] 3))) (.cells #[.bool x.set,.int .i64 x.key,.int .i64 x.item,.int .i64 (ka:Int),.int .i64 x.seq] 106)) (nlr _));have G22:=Za (G21.below (Below.plus (Below.refl _ (w20.alloc (.cells #[.int .i64 (k:Int)] 3))) (.cells #[.bool x.set,.int .i64 x.key,.int .i64 x.item,.int .i64 (ka:Int),.int .i64 x.seq] 106)) (nlr _));have R22:=Za (R21.below (Below.plus (Below.refl _ (w20.alloc (.cells #[.int .i64 (k:Int)] 3))) (.cells #[.bool x.set,.int .i64 x.key,.int .i64 x.item,.int .i64 (ka:Int),.int .i64 x.seq] 106)) (nlr _));have I22:=Za (I21.below (Below.plus (Below.refl _ (w20.alloc (.cells #[.int .i64 (k:Int)] 3))) (.cells #[.bool x.set,.int .i64 x.key,.int .i64 x.item,.int .i64 (ka:Int),.int .i64 x.seq] 106)) (nlr _));have V22:=Za (Box.new (w20.alloc (.cells #[.int .i64 (k:Int)] 3)) [.bool x.set,.int .i64 x.key,.int .i64 x.item,.int .i64 (ka:Int),.int .i64 x.seq] 106);clear HB21 C21 L21 G21 R21 I21;simp only[World.size_alloc]at V22;obtain⟨cV0,cV1,cV2,cV3,cV4⟩:=V22.c5;obtain⟨cG0,cG1,cG2⟩:=G22.c3;have cI0:=I22.get 0 rfl;obtain⟨W2,HW2⟩:∃W2,Hid ((w20.alloc (.cells #[.int .i64 (k:Int)] 3)).alloc (.cells #[.bool x.set,.int .i64 x.key,.int .i64 x.item,.int .i64 (ka:Int),.int .i64 x.seq] 106)=W2):=⟨_,rfl⟩;obtain⟨c1,c2,hcv,-,-,hcc⟩:=C22.out;simp only[Value.slice.injEq]at hcv;obtain⟨rfl,-,rfl⟩:=hcv;obtain⟨gc,oc,rfl,ec⟩:=hcc ka hkl;rw[HY.out]at ec;clear hcc
   go_upto_region 10 with fail
   go_cut [73] (fun cc wx=>cc=.bool (decide (y<x.seq))∧Hid (Zh W2 wx))
   case first=>
    go_quiet (fail)
    go_wp2_with fail
    go_meet
    exact⟨rfl,by rw[←HW2.out];exact Za (Yp (Below.refl _ _) _)⟩
   obtain⟨rfl,HGR⟩:=hcut;obtain⟨w23,rfl⟩:∃w23,w23=wc:=⟨wc,rfl⟩;rw[HW2.out]at R22 I22 V22 L22 G22 HB22;have R23:=Za (R22.below HGR.out (nlr _));have I23:=Za (I22.below HGR.out (nlr _));have V23:=Za (V22.below HGR.out (nlr _));have L23:=Za (L22.below HGR.out (nlr _));have G23:=Za (G22.below HGR.out (nlr _));have HB23:=Za (Zb HB22.out HGR.out);clear R22 I22 V22 L22 G22 HB22 HGR C22 ec cV0 cV1 cV2 cV3 cV4 cG0 cG1 cG2 cI0
   by_cases hyq:y<x.seq
   ·have hd:decide (y<x.seq)=true:=by simp[hyq]
    have hwr:Zo s.clock x=8:=by rw[HOK.out,if_pos hyq]
    rw[hd];clear hd hyq;obtain⟨hse,hsa⟩:=Jk HE1.out HE.out HA.out (by have hq:=Ub (wr:=Zo s.clock) (cm:=Yj) (p:=p) (r:=s.lives.drop (k+1)) (x:=x) (by rw[hwr];omega);rw[hwr]at hq;exact hq) (by omega);rw[HSE.out]at hse;rw[HSA.out]at hsa;subst hse hsa;clear HE HA HP
    go_wp2_with fail
    refine(Qr 8 k _ _ I23.out).mono ?_;rintro e w24 ⟨rfl,hb⟩;have HB24:=Za (Zb HB23.out hb);have R24:=Za (R23.below hb (nlr _));have I24:=Za (I23.below hb (nlr _));clear HB23 hb R23 I23;obtain⟨cR0,cR1⟩:=R24.c2;have f0:=R24.free 0;have f1:=R24.free 1
    go_wp2_with fail
    have hR:=(R24.set 0 (.int .i64 8)).set 1 (.int .i64 (k:Int));refine bodyPost_ret (results_cell_row rfl _ _ (w.heap.size+1) 65 _ (0,0) _ rfl hR Tryz.underlying65 rfl Tryz.sizeFault) rfl ⟨rfl,?_⟩
    exact((HB0.trans (HB24.mono HB0.size)).setCell (by show w.heap.size≤w.heap.size+1;omega) _).setCell (by show w.heap.size≤w.heap.size+1;omega) _
   have hd:decide (y<x.seq)=false:=by simp[hyq]
   have hwr:Zo s.clock x=0:=by rw[HOK.out,if_neg hyq]
   have HWR:=Za hwr;rw[hd];clear hd hyq hwr;obtain⟨gi,HGI⟩:∃gi,Hid (w20.heap.size=gi):=⟨_,rfl⟩;rw[HGI.out]at I23 V23
   rcases HP.out with⟨hp,hk0⟩|⟨m,z,hkm,hz,hp⟩
   ·subst hp hk0;obtain⟨e1,e2⟩:=goE_go (wr:=Zo s.clock) (cm:=Yj) (p:=none) (r:=s.lives.drop (0+1)) (x:=x) HWR.out rfl;rw[e1]at HE;rw[e2]at HA;clear e1 e2;have HK:Hid (∀w',Zh w23 w'→w'.cell? ⟨gi,0,none⟩=some (.int .i64 0)):=fun w' hg=>(I23.below hg (nlr _)).get 0 rfl
    go_upto_region 12 with fail
    rw[HGI.out]
    go_cut [88] (fun cc wx=>cc=.bool false∧Hid (Zh w23 wx))
    case first=>
     refine wp_region_held_drew (S:=fun w'=>w'.cell? ⟨gi,0,none⟩=some (.int .i64 0)) (by kernel_rfl) (HK.out _ (Zf (Zi _))) (fun hHeld=>?_);refine ty 0 (.int .i64 0) ?_;refine ty 1 (.bool false) ?_;refine ty 2 (.bool false) ?_;refine ts 3 ?_;refine ts 4 ?_;refine ts 5 ?_;refine ts 6 ?_;refine ts 7 ?_;refine ts 8 ?_;refine ts 9 ?_;refine ts 10 ?_;refine ts 11 ?_;refine ty 12 (.bool false) ?_;refine wpAnyH_done (by kernel_rfl) ?_ _
     go_wp2_with fail
     go_meet
     exact⟨by simp,Zf (Zi _)⟩
    obtain⟨rfl,HGR⟩:=hcut;have HB24:=Za (Zb HB23.out HGR.out)
    go_wp2_with fail
    go_roundw
    case rel=>exact⟨0+1,some x,by omega,by go_num,HE,by rw[HA.out];unfold Hid;split <;> omega,.inr ⟨0,x,rfl,hx,rfl⟩,HB24⟩
    case measure=>simp[intOf];omega
   subst hp;obtain⟨b',off',hbb,t0,t1,t2,t3,t4⟩:=Va L23.out hz;simp only[Option.some.injEq,Addr.mk.injEq,and_true]at hbb;obtain⟨rfl,rfl⟩:=hbb;obtain⟨q,HQ⟩:∃q,Hid (Xc z x=q):=⟨_,rfl⟩;have hm0:(0:Int)≤(m:Int):=by omega
   have hm1:(m:Int)<(s.lives.length:Int):=by omega
   have hkp:(0:Int)<(k:Int):=by omega
   have hkd:0<k:=by omega
   have hwk:IntKind.i64.wrap ((k:Int) - 1)=(m:Int):=by rw[hkm,wrapL (by omega) (by omega)];omega
   have HKM:=Za hkm
   have HAH:Hid (∀w',Zh w23 w'→Calls Tryz.prog 74 #[.agg #[.bool z.set,.int .i64 z.key,.int .i64 z.item,.int .i64 z.author,.int .i64 z.seq],.agg #[.bool x.set,.int .i64 x.key,.int .i64 x.item,.int .i64 (ka:Int),.int .i64 x.seq]] w' fun e w''=>e=.returned (.bool q)∧Zh w23 w''):=fun w' hg=>by
    have h:=ahead_ref z x w';rw[HQ.out,HKA.out]at h;refine h.mono ?_;rintro e w'' ⟨rfl,hb⟩;exact⟨rfl,Zd hg hb⟩
   have HK:Hid (∀w',Zh w23 w'→w'.cell? ⟨gi,0,none⟩=some (.int .i64 (k:Int))∧w'.cell? ⟨w.heap.size,1,none⟩=some (.slice (some ⟨b,off,none⟩) s.lives.length cap2)∧(w'.cell? ⟨b,off+m*5,none⟩=some (.bool z.set)∧w'.cell? ⟨b,off+m*5+1,none⟩=some (.int .i64 z.key)∧w'.cell? ⟨b,off+m*5+2,none⟩=some (.int .i64 z.item)∧w'.cell? ⟨b,off+m*5+3,none⟩=some (.int .i64 z.author)∧w'.cell? ⟨b,off+m*5+4,none⟩=some (.int .i64 z.seq))∧w'.cell? ⟨gi+1,0,none⟩=some (.bool x.set)∧w'.cell? ⟨gi+1,1,none⟩=some (.int .i64 x.key)∧w'.cell? ⟨gi+1,2,none⟩=some (.int .i64 x.item)∧w'.cell? ⟨gi+1,3,none⟩=some (.int .i64 (ka:Int))∧w'.cell? ⟨gi+1,4,none⟩=some (.int .i64 x.seq)):=fun w' hg=>by
    have hi:=I23.below hg (nlr _);have hv:=V23.below hg (nlr _);obtain⟨b2,off2,hb2,hcs⟩:=Va (L23.below hg (nlr _)) hz;simp only[Option.some.injEq,Addr.mk.injEq,and_true]at hb2;obtain⟨rfl,rfl⟩:=hb2;exact⟨hi.get 0 rfl,(G23.below hg (nlr _)).get 1 rfl,hcs,hv.get 0 rfl,hv.get 1 rfl,hv.get 2 rfl,hv.get 3 rfl,hv.get 4 rfl⟩
   clear hkm
   go_upto_region 12 with fail
   rw[HGI.out]
   go_cut [88] (fun cc wx=>cc=.bool (!q)∧Hid (Zh w23 wx))
   case first=>
    go_region_held3 (fun w'=>w'.cell? ⟨gi,0,none⟩=some (.int .i64 (k:Int))∧w'.cell? ⟨w.heap.size,1,none⟩=some (.slice (some ⟨b,off,none⟩) s.lives.length cap2)∧(w'.cell? ⟨b,off+m*5,none⟩=some (.bool z.set)∧w'.cell? ⟨b,off+m*5+1,none⟩=some (.int .i64 z.key)∧w'.cell? ⟨b,off+m*5+2,none⟩=some (.int .i64 z.item)∧w'.cell? ⟨b,off+m*5+3,none⟩=some (.int .i64 z.author)∧w'.cell? ⟨b,off+m*5+4,none⟩=some (.int .i64 z.seq))∧w'.cell? ⟨gi+1,0,none⟩=some (.bool x.set)∧w'.cell? ⟨gi+1,1,none⟩=some (.int .i64 x.key)∧w'.cell? ⟨gi+1,2,none⟩=some (.int .i64 x.item)∧w'.cell? ⟨gi+1,3,none⟩=some (.int .i64 (ka:Int))∧w'.cell? ⟨gi+1,4,none⟩=some (.int .i64 x.seq))
     ((refine HK.out _ ?_;(first|assumption|exact Zf (Zi _)|exact Zf (by assumption))))
     (first|(go_at_call 74;refine(HAH.out _ ?_).mono ?_;(first|assumption|exact Zf (Zi _)|exact Zf (by assumption));rintro e w' ⟨rfl,hgr⟩))
    all_goals (go_wp2_with fail;go_meet;exact⟨by simp,by assumption⟩)
   obtain⟨rfl,HGR⟩:=hcut;have R24:=Za (R23.below HGR.out (nlr _));have I24:=Za (I23.below HGR.out (nlr _));have HB24:=Za (Zb HB23.out HGR.out);obtain⟨w24,rfl⟩:∃w24,w24=wc:=⟨wc,rfl⟩;clear HK HAH HGR R23 I23 V23 L23 G23 HB23 t0 t1 t2 t3 t4
   cases q
   ·have hnot:(!false)=true:=rfl;have hnb:Yw Yj (some z) x=true:=by unfold Yw;rw[decide_eq_true_iff,cmpL_ge];exact HQ.out
    obtain⟨hse,hsa⟩:=Jk HE1.out HE.out HA.out (goE_nb (wr:=Zo s.clock) (cm:=Yj) (p:=some z) (r:=s.lives.drop (k+1)) (x:=x) HWR.out hnb) (by omega);rw[HSE.out]at hse;rw[HSA.out]at hsa;subst hse hsa;clear HE HA HP
    go_wp2_with fail
    refine(Qr 2 k _ _ I24.out).mono ?_;rintro e w25 ⟨rfl,hb⟩;have HB25:=Za (Zb HB24.out hb);have R25:=Za (R24.below hb (nlr _));have I25:=Za (I24.below hb (nlr _));clear HB24 hb R24 I24;obtain⟨cR0,cR1⟩:=R25.c2;have f0:=R25.free 0;have f1:=R25.free 1
    go_wp2_with fail
    have hR:=(R25.set 0 (.int .i64 2)).set 1 (.int .i64 (k:Int));refine bodyPost_ret (results_cell_row rfl _ _ (w.heap.size+1) 65 _ (0,0) _ rfl hR Tryz.underlying65 rfl Tryz.sizeFault) rfl ⟨rfl,?_⟩
    exact((HB0.trans (HB25.mono HB0.size)).setCell (by show w.heap.size≤w.heap.size+1;omega) _).setCell (by show w.heap.size≤w.heap.size+1;omega) _
   have hnot:(!true)=false:=rfl;have hnb:Yw Yj (some z) x=false:=by unfold Yw;rw[decide_eq_false_iff_not,cmpL_ge,HQ.out];simp
   obtain⟨e1,e2⟩:=goE_go (wr:=Zo s.clock) (cm:=Yj) (p:=some z) (r:=s.lives.drop (k+1)) (x:=x) HWR.out hnb;rw[e1]at HE;rw[e2]at HA;clear e1 e2 hnb
   go_wp2_with fail
   go_roundw
   case rel=>exact⟨k+1,some x,by omega,by go_num,HE,by rw[HA.out];unfold Hid;split <;> omega,.inr ⟨k,x,rfl,hx,rfl⟩,HB24⟩
   case measure=>simp[intOf];omega
  have hkl:s.lives.drop k=[]:=List.drop_eq_nil_of_le (by omega);have hlt':¬(k:Int)<(s.lives.length:Int):=by omega
  rw[hkl]at HE;have HEL:Hid (Vr (Zo s.clock) Yj s.lives=0):=HE.out;clear HE HA HP hkl;have g2:=G20.get 2 rfl
  go_wp2_with fail
  clear g2;have hlen2:=T0.len_le
  go_loopw [95] (fun i wr=>∃(j:Nat) (p:Option Tal),j≤s.tals.length∧i=.int .i64 j∧Hid (Vr (Zq s.clock) Yr s.tals=goE (Zq s.clock) Yr p (s.tals.drop j))∧Hid (zO (Zq s.clock) Yr s.tals=if Vr (Zq s.clock) Yr s.tals=0 then 0 else((j+goA (Zq s.clock) Yr p (s.tals.drop j):Nat):Int))∧Hid ((p=none∧j=0)∨∃m y,j=m+1∧s.tals[m]? =some y∧p=some y)∧Hid (Below W0.heap.size W0 wr)) (fun i _=>s.tals.length - (intOf i).toNat)
  case atStart=>exact⟨0,none,Nat.zero_le _,rfl,rfl,by rw[List.drop_zero,Nat.zero_add];exact rfl,.inl ⟨rfl,rfl⟩,HB20⟩
  clear C20 L20 G20 R20 HRL HB20;obtain⟨j,p,hj,rfl,HE,HA,HP,HB20⟩:=hrel;obtain⟨w20,rfl⟩:∃w20,w20=wr:=⟨wr,rfl⟩;have C20:=Za (C0.below HB20.out (nlr _));have L20:=Za (T0.below HB20.out (nlr _));have G20:=Za (G0.below HB20.out (nlr _));have R20:=Za (R0.below HB20.out (nlr _));have HRL:=Za R20.lt
  by_cases hlt:j<s.tals.length
  ·obtain⟨x,hx⟩:∃x,s.tals[j]? =some x:=⟨_,List.getElem?_eq_getElem hlt⟩;obtain⟨b,off,hab,d0,d1,d2⟩:=Jy L20.out hx;subst hab;have HD:=Za (drop_at hx);rw[HD.out]at HE HA;have hlt':(j:Int)<(s.tals.length:Int):=by omega
   by_cases hA0:x.author<0
   ·have hwr:Zq s.clock x=3:=by unfold Zq Oa;rw[if_pos];rw[HLN.out];simp only[decide_eq_false_iff_not];omega
    obtain⟨W2,HW2⟩:∃W2,Hid ((w20.alloc (.cells #[.int .i64 (j:Int)] 3)).alloc (.cells #[.int .i64 x.key,.int .i64 x.author,.int .i64 x.sum] 108)=W2):=⟨_,rfl⟩;have HB21:=Za (Zb HB20.out (bpl w20 (.cells #[.int .i64 (j:Int)] 3)));have C21:=Za (C20.below (bpl w20 (.cells #[.int .i64 (j:Int)] 3)) (nlr _));have L21:=Za (L20.below (bpl w20 (.cells #[.int .i64 (j:Int)] 3)) (nlr _));have G21:=Za (G20.below (bpl w20 (.cells #[.int .i64 (j:Int)] 3)) (nlr _));have R21:=Za (R20.below (bpl w20 (.cells #[.int .i64 (j:Int)] 3)) (nlr _));have I21:=Za (Box.new w20 [.int .i64 (j:Int)] 3);clear HB20 C20 L20 G20 R20;have HB22:=Za (Zb HB21.out (Below.plus (Below.refl _ (w20.alloc (.cells #[.int .i64 (j:Int)] 3))) (.cells #[.int .i64 x.key,.int .i64 x.author,.int .i64 x.sum] 108)));have C22:=Za (C21.below (Below.plus (Below.refl _ (w20.alloc (.cells #[.int .i64 (j:Int)] 3))) (.cells #[.int .i64 x.key,.int .i64 x.author,.int .i64 x.sum] 108)) (nlr _));have L22:=Za (L21.below (Below.plus (Below.refl _ (w20.alloc (.cells #[.int .i64 (j:Int)] 3))) (.cells #[.int .i64 x.key,.int .i64 x.author,.int .i64 x.sum] 108)) (nlr _));have G22:=Za (G21.below (Below.plus (Below.refl _ (w20.alloc (.cells #[.int .i64 (j:Int)] 3))) (.cells #[.int .i64 x.key,.int .i64 x.author,.int .i64 x.sum] 108)) (nlr _));have R22:=Za (R21.below (Below.plus (Below.refl _ (w20.alloc (.cells #[.int .i64 (j:Int)] 3))) (.cells #[.int .i64 x.key,.int .i64 x.author,.int .i64 x.sum] 108)) (nlr _));have I22:=Za (I21.below (Below.plus (Below.refl _ (w20.alloc (.cells #[.int .i64 (j:Int)] 3))) (.cells #[.int .i64 x.key,.int .i64 x.author,.int .i64 x.sum] 108)) (nlr _));have V22:=Za (Box.new (w20.alloc (.cells #[.int .i64 (j:Int)] 3)) [.int .i64 x.key,.int .i64 x.author,.int .i64 x.sum] 108);clear HB21 C21 L21 G21 R21 I21;simp only[World.size_alloc]at V22;obtain⟨cV0,cV1,cV2⟩:=V22.c3;obtain⟨cG0,cG1,cG2⟩:=G22.c3
    go_upto_region 19 with fail
    go_cut [148] (fun cc wx=>cc=.bool true∧Hid (Zh W2 wx))
    case first=>
     go_quiet (fail)
     go_wp2_with fail
     go_meet
     exact⟨by simp,by rw[←HW2.out];exact Za (Yp (Below.refl _ _) _)⟩
    obtain⟨rfl,HGR⟩:=hcut;obtain⟨w23,rfl⟩:∃w23,w23=wc:=⟨wc,rfl⟩;rw[HW2.out]at R22 I22 V22 L22 G22 HB22;have R23:=Za (R22.below HGR.out (nlr _));have I23:=Za (I22.below HGR.out (nlr _));have V23:=Za (V22.below HGR.out (nlr _));have L23:=Za (L22.below HGR.out (nlr _));have G23:=Za (G22.below HGR.out (nlr _));have HB23:=Za (Zb HB22.out HGR.out);clear R22 I22 V22 L22 G22 HB22 HGR C22 cV0 cV1 cV2 cG0 cG1 cG2;obtain⟨hse,hsa⟩:=Qd HE1.out HEL.out HE.out HA.out (by have hq:=Ub (wr:=Zq s.clock) (cm:=Yr) (p:=p) (r:=s.tals.drop (j+1)) (x:=x) (by rw[hwr];omega);rw[hwr]at hq;exact hq) (by omega);rw[HSE.out]at hse;rw[HSA.out]at hsa;subst hse hsa;clear HE HA HP
    go_wp2_with fail
    refine(Os 3 j _ _ I23.out).mono ?_;rintro e w24 ⟨rfl,hb⟩;have HB24:=Za (Zb HB23.out hb);have R24:=Za (R23.below hb (nlr _));have I24:=Za (I23.below hb (nlr _));clear HB23 hb R23 I23;obtain⟨cR0,cR1⟩:=R24.c2;have f0:=R24.free 0;have f1:=R24.free 1
    go_wp2_with fail
    have hR:=(R24.set 0 (.int .i64 3)).set 1 (.int .i64 (j:Int));refine bodyPost_ret (results_cell_row rfl _ _ (w.heap.size+1) 65 _ (0,0) _ rfl hR Tryz.underlying65 rfl Tryz.sizeFault) rfl ⟨rfl,?_⟩
    exact((HB0.trans (HB24.mono HB0.size)).setCell (by show w.heap.size≤w.heap.size+1;omega) _).setCell (by show w.heap.size≤w.heap.size+1;omega) _
   skip
   by_cases hA1:n≤x.author
   ·have hwr:Zq s.clock x=3:=by unfold Zq Oa;rw[if_pos];rw[HLN.out];simp only[decide_eq_false_iff_not];omega
    obtain⟨W2,HW2⟩:∃W2,Hid ((w20.alloc (.cells #[.int .i64 (j:Int)] 3)).alloc (.cells #[.int .i64 x.key,.int .i64 x.author,.int .i64 x.sum] 108)=W2):=⟨_,rfl⟩;have HB21:=Za (Zb HB20.out (bpl w20 (.cells #[.int .i64 (j:Int)] 3)));have C21:=Za (C20.below (bpl w20 (.cells #[.int .i64 (j:Int)] 3)) (nlr _));have L21:=Za (L20.below (bpl w20 (.cells #[.int .i64 (j:Int)] 3)) (nlr _));have G21:=Za (G20.below (bpl w20 (.cells #[.int .i64 (j:Int)] 3)) (nlr _));have R21:=Za (R20.below (bpl w20 (.cells #[.int .i64 (j:Int)] 3)) (nlr _));have I21:=Za (Box.new w20 [.int .i64 (j:Int)] 3);clear HB20 C20 L20 G20 R20;have HB22:=Za (Zb HB21.out (Below.plus (Below.refl _ (w20.alloc (.cells #[.int .i64 (j:Int)] 3))) (.cells #[.int .i64 x.key,.int .i64 x.author,.int .i64 x.sum] 108)));have C22:=Za (C21.below (Below.plus (Below.refl _ (w20.alloc (.cells #[.int .i64 (j:Int)] 3))) (.cells #[.int .i64 x.key,.int .i64 x.author,.int .i64 x.sum] 108)) (nlr _));have L22:=Za (L21.below (Below.plus (Below.refl _ (w20.alloc (.cells #[.int .i64 (j:Int)] 3))) (.cells #[.int .i64 x.key,.int .i64 x.author,.int .i64 x.sum] 108)) (nlr _));have G22:=Za (G21.below (Below.plus (Below.refl _ (w20.alloc (.cells #[.int .i64 (j:Int)] 3))) (.cells #[.int .i64 x.key,.int .i64 x.author,.int .i64 x.sum] 108)) (nlr _));have R22:=Za (R21.below (Below.plus (Below.refl _ (w20.alloc (.cells #[.int .i64 (j:Int)] 3))) (.cells #[.int .i64 x.key,.int .i64 x.author,.int .i64 x.sum] 108)) (nlr _));have I22:=Za (I21.below (Below.plus (Below.refl _ (w20.alloc (.cells #[.int .i64 (j:Int)] 3))) (.cells #[.int .i64 x.key,.int .i64 x.author,.int .i64 x.sum] 108)) (nlr _));have V22:=Za (Box.new (w20.alloc (.cells #[.int .i64 (j:Int)] 3)) [.int .i64 x.key,.int .i64 x.author,.int .i64 x.sum] 108);clear HB21 C21 L21 G21 R21 I21;simp only[World.size_alloc]at V22;obtain⟨cV0,cV1,cV2⟩:=V22.c3;obtain⟨cG0,cG1,cG2⟩:=G22.c3
    go_upto_region 19 with fail
    go_cut [148] (fun cc wx=>cc=.bool true∧Hid (Zh W2 wx))
    case first=>
     go_quiet (fail)
     go_wp2_with fail
     go_meet
     exact⟨by simp,by rw[←HW2.out];exact Za (Yp (Below.refl _ _) _)⟩
    obtain⟨rfl,HGR⟩:=hcut;obtain⟨w23,rfl⟩:∃w23,w23=wc:=⟨wc,rfl⟩;rw[HW2.out]at R22 I22 V22 L22 G22 HB22;have R23:=Za (R22.below HGR.out (nlr _));have I23:=Za (I22.below HGR.out (nlr _));have V23:=Za (V22.below HGR.out (nlr _));have L23:=Za (L22.below HGR.out (nlr _));have G23:=Za (G22.below HGR.out (nlr _));have HB23:=Za (Zb HB22.out HGR.out);clear R22 I22 V22 L22 G22 HB22 HGR C22 cV0 cV1 cV2 cG0 cG1 cG2;obtain⟨hse,hsa⟩:=Qd HE1.out HEL.out HE.out HA.out (by have hq:=Ub (wr:=Zq s.clock) (cm:=Yr) (p:=p) (r:=s.tals.drop (j+1)) (x:=x) (by rw[hwr];omega);rw[hwr]at hq;exact hq) (by omega);rw[HSE.out]at hse;rw[HSA.out]at hsa;subst hse hsa;clear HE HA HP
    go_wp2_with fail
    refine(Os 3 j _ _ I23.out).mono ?_;rintro e w24 ⟨rfl,hb⟩;have HB24:=Za (Zb HB23.out hb);have R24:=Za (R23.below hb (nlr _));have I24:=Za (I23.below hb (nlr _));clear HB23 hb R23 I23;obtain⟨cR0,cR1⟩:=R24.c2;have f0:=R24.free 0;have f1:=R24.free 1
    go_wp2_with fail
    have hR:=(R24.set 0 (.int .i64 3)).set 1 (.int .i64 (j:Int));refine bodyPost_ret (results_cell_row rfl _ _ (w.heap.size+1) 65 _ (0,0) _ rfl hR Tryz.underlying65 rfl Tryz.sizeFault) rfl ⟨rfl,?_⟩
    exact((HB0.trans (HB24.mono HB0.size)).setCell (by show w.heap.size≤w.heap.size+1;omega) _).setCell (by show w.heap.size≤w.heap.size+1;omega) _
   skip
   by_cases hK0:x.key<0
   ·have hwr:Zq s.clock x=3:=by unfold Zq Oa;rw[if_pos];rw[HLN.out];simp only[decide_eq_false_iff_not];omega
    obtain⟨W2,HW2⟩:∃W2,Hid ((w20.alloc (.cells #[.int .i64 (j:Int)] 3)).alloc (.cells #[.int .i64 x.key,.int .i64 x.author,.int .i64 x.sum] 108)=W2):=⟨_,rfl⟩;have HB21:=Za (Zb HB20.out (bpl w20 (.cells #[.int .i64 (j:Int)] 3)));have C21:=Za (C20.below (bpl w20 (.cells #[.int .i64 (j:Int)] 3)) (nlr _));have L21:=Za (L20.below (bpl w20 (.cells #[.int .i64 (j:Int)] 3)) (nlr _));have G21:=Za (G20.below (bpl w20 (.cells #[.int .i64 (j:Int)] 3)) (nlr _));have R21:=Za (R20.below (bpl w20 (.cells #[.int .i64 (j:Int)] 3)) (nlr _));have I21:=Za (Box.new w20 [.int .i64 (j:Int)] 3);clear HB20 C20 L20 G20 R20;have HB22:=Za (Zb HB21.out (Below.plus (Below.refl _ (w20.alloc (.cells #[.int .i64 (j:Int)] 3))) (.cells #[.int .i64 x.key,.int .i64 x.author,.int .i64 x.sum] 108)));have C22:=Za (C21.below (Below.plus (Below.refl _ (w20.alloc (.cells #[.int .i64 (j:Int)] 3))) (.cells #[.int .i64 x.key,.int .i64 x.author,.int .i64 x.sum] 108)) (nlr _));have L22:=Za (L21.below (Below.plus (Below.refl _ (w20.alloc (.cells #[.int .i64 (j:Int)] 3))) (.cells #[.int .i64 x.key,.int .i64 x.author,.int .i64 x.sum] 108)) (nlr _));have G22:=Za (G21.below (Below.plus (Below.refl _ (w20.alloc (.cells #[.int .i64 (j:Int)] 3))) (.cells #[.int .i64 x.key,.int .i64 x.author,.int .i64 x.sum] 108)) (nlr _));have R22:=Za (R21.below (Below.plus (Below.refl _ (w20.alloc (.cells #[.int .i64 (j:Int)] 3))) (.cells #[.int .i64 x.key,.int .i64 x.author,.int .i64 x.sum] 108)) (nlr _));have I22:=Za (I21.below (Below.plus (Below.refl _ (w20.alloc (.cells #[.int .i64 (j:Int)] 3))) (.cells #[.int .i64 x.key,.int .i64 x.author,.int .i64 x.sum] 108)) (nlr _));have V22:=Za (Box.new (w20.alloc (.cells #[.int .i64 (j:Int)] 3)) [.int .i64 x.key,.int .i64 x.author,.int .i64 x.sum] 108);clear HB21 C21 L21 G21 R21 I21;simp only[World.size_alloc]at V22;obtain⟨cV0,cV1,cV2⟩:=V22.c3;obtain⟨cG0,cG1,cG2⟩:=G22.c3
    go_upto_region 19 with fail
    go_cut [148] (fun cc wx=>cc=.bool true∧Hid (Zh W2 wx))
    case first=>
     go_quiet (fail)
     go_wp2_with fail
     go_meet
     exact⟨by simp,by rw[←HW2.out];exact Za (Yp (Below.refl _ _) _)⟩
    obtain⟨rfl,HGR⟩:=hcut;obtain⟨w23,rfl⟩:∃w23,w23=wc:=⟨wc,rfl⟩;rw[HW2.out]at R22 I22 V22 L22 G22 HB22;have R23:=Za (R22.below HGR.out (nlr _));have I23:=Za (I22.below HGR.out (nlr _));have V23:=Za (V22.below HGR.out (nlr _));have L23:=Za (L22.below HGR.out (nlr _));have G23:=Za (G22.below HGR.out (nlr _));have HB23:=Za (Zb HB22.out HGR.out);clear R22 I22 V22 L22 G22 HB22 HGR C22 cV0 cV1 cV2 cG0 cG1 cG2;obtain⟨hse,hsa⟩:=Qd HE1.out HEL.out HE.out HA.out (by have hq:=Ub (wr:=Zq s.clock) (cm:=Yr) (p:=p) (r:=s.tals.drop (j+1)) (x:=x) (by rw[hwr];omega);rw[hwr]at hq;exact hq) (by omega);rw[HSE.out]at hse;rw[HSA.out]at hsa;subst hse hsa;clear HE HA HP
    go_wp2_with fail
    refine(Os 3 j _ _ I23.out).mono ?_;rintro e w24 ⟨rfl,hb⟩;have HB24:=Za (Zb HB23.out hb);have R24:=Za (R23.below hb (nlr _));have I24:=Za (I23.below hb (nlr _));clear HB23 hb R23 I23;obtain⟨cR0,cR1⟩:=R24.c2;have f0:=R24.free 0;have f1:=R24.free 1
    go_wp2_with fail
    have hR:=(R24.set 0 (.int .i64 3)).set 1 (.int .i64 (j:Int));refine bodyPost_ret (results_cell_row rfl _ _ (w.heap.size+1) 65 _ (0,0) _ rfl hR Tryz.underlying65 rfl Tryz.sizeFault) rfl ⟨rfl,?_⟩
    exact((HB0.trans (HB24.mono HB0.size)).setCell (by show w.heap.size≤w.heap.size+1;omega) _).setCell (by show w.heap.size≤w.heap.size+1;omega) _
   skip
   by_cases hK1:15<x.key
   ·have hwr:Zq s.clock x=3:=by unfold Zq Oa;rw[if_pos];rw[HLN.out];simp only[decide_eq_false_iff_not];omega
    obtain⟨W2,HW2⟩:∃W2,Hid ((w20.alloc (.cells #[.int .i64 (j:Int)] 3)).alloc (.cells #[.int .i64 x.key,.int .i64 x.author,.int .i64 x.sum] 108)=W2):=⟨_,rfl⟩;have HB21:=Za (Zb HB20.out (bpl w20 (.cells #[.int .i64 (j:Int)] 3)));have C21:=Za (C20.below (bpl w20 (.cells #[.int .i64 (j:Int)] 3)) (nlr _));have L21:=Za (L20.below (bpl w20 (.cells #[.int .i64 (j:Int)] 3)) (nlr _));have G21:=Za (G20.below (bpl w20 (.cells #[.int .i64 (j:Int)] 3)) (nlr _));have R21:=Za (R20.below (bpl w20 (.cells #[.int .i64 (j:Int)] 3)) (nlr _));have I21:=Za (Box.new w20 [.int .i64 (j:Int)] 3);clear HB20 C20 L20 G20 R20;have HB22:=Za (Zb HB21.out (Below.plus (Below.refl _ (w20.alloc (.cells #[.int .i64 (j:Int)] 3))) (.cells #[.int .i64 x.key,.int .i64 x.author,.int .i64 x.sum] 108)));have C22:=Za (C21.below (Below.plus (Below.refl _ (w20.alloc (.cells #[.int .i64 (j:Int)] 3))) (.cells #[.int .i64 x.key,.int .i64 x.author,.int .i64 x.sum] 108)) (nlr _));have L22:=Za (L21.below (Below.plus (Below.refl _ (w20.alloc (.cells #[.int .i64 (j:Int)] 3))) (.cells #[.int .i64 x.key,.int .i64 x.author,.int .i64 x.sum] 108)) (nlr _));have G22:=Za (G21.below (Below.plus (Below.refl _ (w20.alloc (.cells #[.int .i64 (j:Int)] 3))) (.cells #[.int .i64 x.key,.int .i64 x.author,.int .i64 x.sum] 108)) (nlr _));have R22:=Za (R21.below (Below.plus (Below.refl _ (w20.alloc (.cells #[.int .i64 (j:Int)] 3))) (.cells #[.int .i64 x.key,.int .i64 x.author,.int .i64 x.sum] 108)) (nlr _));have I22:=Za (I21.below (Below.plus (Below.refl _ (w20.alloc (.cells #[.int .i64 (j:Int)] 3))) (.cells #[.int .i64 x.key,.int .i64 x.author,.int .i64 x.sum] 108)) (nlr _));have V22:=Za (Box.new (w20.alloc (.cells #[.int .i64 (j:Int)] 3)) [.int .i64 x.key,.int .i64 x.author,.int .i64 x.sum] 108);clear HB21 C21 L21 G21 R21 I21;simp only[World.size_alloc]at V22;obtain⟨cV0,cV1,cV2⟩:=V22.c3;obtain⟨cG0,cG1,cG2⟩:=G22.c3
    go_upto_region 19 with fail
    go_cut [148] (fun cc wx=>cc=.bool true∧Hid (Zh W2 wx))
    case first=>
     go_quiet (fail)
     go_wp2_with fail
     go_meet
     exact⟨by simp,by rw[←HW2.out];exact Za (Yp (Below.refl _ _) _)⟩
    obtain⟨rfl,HGR⟩:=hcut;obtain⟨w23,rfl⟩:∃w23,w23=wc:=⟨wc,rfl⟩;rw[HW2.out]at R22 I22 V22 L22 G22 HB22;have R23:=Za (R22.below HGR.out (nlr _));have I23:=Za (I22.below HGR.out (nlr _));have V23:=Za (V22.below HGR.out (nlr _));have L23:=Za (L22.below HGR.out (nlr _));have G23:=Za (G22.below HGR.out (nlr _));have HB23:=Za (Zb HB22.out HGR.out);clear R22 I22 V22 L22 G22 HB22 HGR C22 cV0 cV1 cV2 cG0 cG1 cG2;obtain⟨hse,hsa⟩:=Qd HE1.out HEL.out HE.out HA.out (by have hq:=Ub (wr:=Zq s.clock) (cm:=Yr) (p:=p) (r:=s.tals.drop (j+1)) (x:=x) (by rw[hwr];omega);rw[hwr]at hq;exact hq) (by omega);rw[HSE.out]at hse;rw[HSA.out]at hsa;subst hse hsa;clear HE HA HP
    go_wp2_with fail
    refine(Os 3 j _ _ I23.out).mono ?_;rintro e w24 ⟨rfl,hb⟩;have HB24:=Za (Zb HB23.out hb);have R24:=Za (R23.below hb (nlr _));have I24:=Za (I23.below hb (nlr _));clear HB23 hb R23 I23;obtain⟨cR0,cR1⟩:=R24.c2;have f0:=R24.free 0;have f1:=R24.free 1
    go_wp2_with fail
    have hR:=(R24.set 0 (.int .i64 3)).set 1 (.int .i64 (j:Int));refine bodyPost_ret (results_cell_row rfl _ _ (w.heap.size+1) 65 _ (0,0) _ rfl hR Tryz.underlying65 rfl Tryz.sizeFault) rfl ⟨rfl,?_⟩
    exact((HB0.trans (HB24.mono HB0.size)).setCell (by show w.heap.size≤w.heap.size+1;omega) _).setCell (by show w.heap.size≤w.heap.size+1;omega) _
   skip
   by_cases hS0:x.sum=0
   ·have hwr:Zq s.clock x=3:=by unfold Zq Oa;rw[if_pos];rw[HLN.out];simp only[decide_eq_false_iff_not];omega
    have hS1:(x.sum==0)=true:=by simp[hS0]
    clear hS0;obtain⟨W2,HW2⟩:∃W2,Hid ((w20.alloc (.cells #[.int .i64 (j:Int)] 3)).alloc (.cells #[.int .i64 x.key,.int .i64 x.author,.int .i64 x.sum] 108)=W2):=⟨_,rfl⟩;have HB21:=Za (Zb HB20.out (bpl w20 (.cells #[.int .i64 (j:Int)] 3)));have C21:=Za (C20.below (bpl w20 (.cells #[.int .i64 (j:Int)] 3)) (nlr _));have L21:=Za (L20.below (bpl w20 (.cells #[.int .i64 (j:Int)] 3)) (nlr _));have G21:=Za (G20.below (bpl w20 (.cells #[.int .i64 (j:Int)] 3)) (nlr _));have R21:=Za (R20.below (bpl w20 (.cells #[.int .i64 (j:Int)] 3)) (nlr _));have I21:=Za (Box.new w20 [.int .i64 (j:Int)] 3);clear HB20 C20 L20 G20 R20;have HB22:=Za (Zb HB21.out (Below.plus (Below.refl _ (w20.alloc (.cells #[.int .i64 (j:Int)] 3))) (.cells #[.int .i64 x.key,.int .i64 x.author,.int .i64 x.sum] 108)));have C22:=Za (C21.below (Below.plus (Below.refl _ (w20.alloc (.cells #[.int .i64 (j:Int)] 3))) (.cells #[.int .i64 x.key,.int .i64 x.author,.int .i64 x.sum] 108)) (nlr _));have L22:=Za (L21.below (Below.plus (Below.refl _ (w20.alloc (.cells #[.int .i64 (j:Int)] 3))) (.cells #[.int .i64 x.key,.int .i64 x.author,.int .i64 x.sum] 108)) (nlr _));have G22:=Za (G21.below (Below.plus (Below.refl _ (w20.alloc (.cells #[.int .i64 (j:Int)] 3))) (.cells #[.int .i64 x.key,.int .i64 x.author,.int .i64 x.sum] 108)) (nlr _));have R22:=Za (R21.below (Below.plus (Below.refl _ (w20.alloc (.cells #[.int .i64 (j:Int)] 3))) (.cells #[.int .i64 x.key,.int .i64 x.author,.int .i64 x.sum] 108)) (nlr _));have I22:=Za (I21.below (Below.plus (Below.refl _ (w20.alloc (.cells #[.int .i64 (j:Int)] 3))) (.cells #[.int .i64 x.key,.int .i64 x.author,.int .i64 x.sum] 108)) (nlr _));have V22:=Za (Box.new (w20.alloc (.cells #[.int .i64 (j:Int)] 3)) [.int .i64 x.key,.int .i64 x.author,.int .i64 x.sum] 108);clear HB21 C21 L21 G21 R21 I21;simp only[World.size_alloc]at V22;obtain⟨cV0,cV1,cV2⟩:=V22.c3;obtain⟨cG0,cG1,cG2⟩:=G22.c3
    go_upto_region 19 with fail
    go_cut [148] (fun cc wx=>cc=.bool true∧Hid (Zh W2 wx))
    case first=>
     go_quiet (fail)
     go_wp2_with fail
     go_meet
     exact⟨by simp,by rw[←HW2.out];exact Za (Yp (Below.refl _ _) _)⟩
    obtain⟨rfl,HGR⟩:=hcut;obtain⟨w23,rfl⟩:∃w23,w23=wc:=⟨wc,rfl⟩;rw[HW2.out]at R22 I22 V22 L22 G22 HB22;have R23:=Za (R22.below HGR.out (nlr _));have I23:=Za (I22.below HGR.out (nlr _));have V23:=Za (V22.below HGR.out (nlr _));have L23:=Za (L22.below HGR.out (nlr _));have G23:=Za (G22.below HGR.out (nlr _));have HB23:=Za (Zb HB22.out HGR.out);clear R22 I22 V22 L22 G22 HB22 HGR C22 cV0 cV1 cV2 cG0 cG1 cG2;obtain⟨hse,hsa⟩:=Qd HE1.out HEL.out HE.out HA.out (by have hq:=Ub (wr:=Zq s.clock) (cm:=Yr) (p:=p) (r:=s.tals.drop (j+1)) (x:=x) (by rw[hwr];omega);rw[hwr]at hq;exact hq) (by omega);rw[HSE.out]at hse;rw[HSA.out]at hsa;subst hse hsa;clear HE HA HP
    go_wp2_with fail
    refine(Os 3 j _ _ I23.out).mono ?_;rintro e w24 ⟨rfl,hb⟩;have HB24:=Za (Zb HB23.out hb);have R24:=Za (R23.below hb (nlr _));have I24:=Za (I23.below hb (nlr _));clear HB23 hb R23 I23;obtain⟨cR0,cR1⟩:=R24.c2;have f0:=R24.free 0;have f1:=R24.free 1
    go_wp2_with fail
    have hR:=(R24.set 0 (.int .i64 3)).set 1 (.int .i64 (j:Int));refine bodyPost_ret (results_cell_row rfl _ _ (w.heap.size+1) 65 _ (0,0) _ rfl hR Tryz.underlying65 rfl Tryz.sizeFault) rfl ⟨rfl,?_⟩
    exact((HB0.trans (HB24.mono HB0.size)).setCell (by show w.heap.size≤w.heap.size+1;omega) _).setCell (by show w.heap.size≤w.heap.size+1;omega) _
   skip
   have hS1:(x.sum==0)=false:=by simp[hS0]
   obtain⟨ka,hka⟩:∃ka:Nat,x.author=(ka:Int):=⟨x.author.toNat,by omega⟩;have hkl:ka<s.clock.length:=by have:=HLN.out;omega
   have hA0':¬((ka:Int)<0):=by omega
   have hA1':¬(n≤(ka:Int)):=by omega
   have hkl':(ka:Int)<(s.clock.length:Int):=by omega
   have hk00:(0:Int)≤(ka:Int):=by omega
   obtain⟨y,HY⟩:∃y,Hid (s.clock.getD ka 0=y):=⟨_,rfl⟩;have hyb:=(Zm.1 HE1.out).2.2.2 ka;rw[HY.out]at hyb
   have hwt:Zq s.clock x=if 1000*y<x.sum∨x.sum< -1000*y then 3 else 0:=by
    unfold Zq Oa Xo;rw[hka,Int.toNat_natCast,HY.out,HLN.out]
    by_cases hq:1000*y<x.sum∨x.sum< -1000*y
    ·rw[if_pos hq,if_pos];simp only[decide_eq_false_iff_not];omega
    rw[if_neg hq,if_neg];simp only[decide_eq_false_iff_not];omega
   have HWT:=Za hwt;have HKA:=Za hka;rw[hka]at d1;obtain⟨y1,hy1⟩:∃y1,y1=1000*y:=⟨_,rfl⟩;obtain⟨y2,hy2⟩:∃y2,y2=-1000*y:=⟨_,rfl⟩;have hw1:IntKind.i64.wrap (1000*y)=y1:=by rw[hy1];exact wrapS (by omega) (by omega)
   have hw2:IntKind.i64.wrap (-1000*y)=y2:=by rw[hy2];exact wrapS (by omega) (by omega)
   have hw3:IntKind.i64.wrap (-(1000*y))=y2:=by rw[hy2];rw[wrapS (by omega) (by omega)];omega
   rw[←hy1,←hy2]at HWT;clear hwt hka hA0 hA1 hS0 hyb;obtain⟨W2,HW2⟩:∃W2,Hid ((w20.alloc (.cells #[.int .i64 (j:Int)] 3)).alloc (.cells #[.int .i64 x.key,.int .i64 (ka:Int),.int .i64 x.sum] 108)=W2):=⟨_,rfl⟩;have HB21:=Za (Zb HB20.out (bpl w20 (.cells #[.int .i64 (j:Int)] 3)));have C21:=Za (C20.below (bpl w20 (.cells #[.int .i64 (j:Int)] 3)) (nlr _));have L21:=Za (L20.below (bpl w20 (.cells #[.int .i64 (j:Int)] 3)) (nlr _));have G21:=Za (G20.below (bpl w20 (.cells #[.int .i64 (j:Int)] 3)) (nlr _));have R21:=Za (R20.below (bpl w20 (.cells #[.int .i64 (j:Int)] 3)) (nlr _));have I21:=Za (Box.new w20 [.int .i64 (j:Int)] 3);clear HB20 C20 L20 G20 R20;have HB22:=Za (Zb HB21.out (Below.plus (Below.refl _ (w20.alloc (.cells #[.int .i64 (j:Int)] 3))) (.cells #[.int .i64 x.key,.int .i64 (ka:Int),.int .i64 x.sum] 108)));have C22:=Za (C21.below (Below.plus (Below.refl _ (w20.alloc (.cells #[.int .i64 (j:Int)] 3))) (.cells #[.int .i64 x.key,.int .i64 (ka:Int),.int .i64 x.sum] 108)) (nlr _));have L22:=Za (L21.below (Below.plus (Below.refl _ (w20.alloc (.cells #[.int .i64 (j:Int)] 3))) (.cells #[.int .i64 x.key,.int .i64 (ka:Int),.int .i64 x.sum] 108)) (nlr _));have G22:=Za (G21.below (Below.plus (Below.refl _ (w20.alloc (.cells #[.int .i64 (j:Int)] 3))) (.cells #[.int .i64 x.key,.int .i64 (ka:Int),.int .i64 x.sum] 108)) (nlr _));have R22:=Za (R21.below (Below.plus (Below.refl _ (w20.alloc (.cells #[.int .i64 (j:Int)] 3))) (.cells #[.int .i64 x.key,.int .i64 (ka:Int),.int .i64 x.sum] 108)) (nlr _));have I22:=Za (I21.below (Below.plus (Below.refl _ (w20.alloc (.cells #[.int .i64 (j:Int)] 3))) (.cells #[.int .i64 x.key,.int .i64 (ka:Int),.int .i64 x.sum] 108)) (nlr _));have V22:=Za (Box.new (w20.alloc (.cells #[.int .i64 (j:Int)] 3)) [.int .i64 x.key,.int .i64 (ka:Int),.int .i64 x.sum] 108);clear HB21 C21 L21 G21 R21 I21;simp only[World.size_alloc]at V22;obtain⟨cV0,cV1,cV2⟩:=V22.c3;obtain⟨cG0,cG1,cG2⟩:=G22.c3;obtain⟨c1,c2,hcv,-,-,hcc⟩:=id C22.out;simp only[Value.slice.injEq]at hcv;obtain⟨rfl,-,rfl⟩:=hcv;obtain⟨gc,oc,rfl,ec⟩:=hcc ka hkl;rw[HY.out]at ec;clear hcc hy1 hy2
   by_cases hu1:y1<x.sum
   ·have hwr:Zq s.clock x=3:=by rw[HWT.out,if_pos (.inl hu1)]
    go_upto_region 19 with fail
    go_cut [148] (fun cc wx=>cc=.bool true∧Hid (Zh W2 wx))
    case first=>
     go_quiet (fail)
     go_wp2_with fail
     go_meet
     exact⟨by simp,by rw[←HW2.out];exact Za (Yp (Below.refl _ _) _)⟩
    obtain⟨rfl,HGR⟩:=hcut;obtain⟨w23,rfl⟩:∃w23,w23=wc:=⟨wc,rfl⟩;rw[HW2.out]at R22 I22 V22 L22 G22 HB22;have R23:=Za (R22.below HGR.out (nlr _));have I23:=Za (I22.below HGR.out (nlr _));have V23:=Za (V22.below HGR.out (nlr _));have L23:=Za (L22.below HGR.out (nlr _));have G23:=Za (G22.below HGR.out (nlr _));have HB23:=Za (Zb HB22.out HGR.out);clear R22 I22 V22 L22 G22 HB22 HGR C22 cV0 cV1 cV2 cG0 cG1 cG2 ec;obtain⟨hse,hsa⟩:=Qd HE1.out HEL.out HE.out HA.out (by have hq:=Ub (wr:=Zq s.clock) (cm:=Yr) (p:=p) (r:=s.tals.drop (j+1)) (x:=x) (by rw[hwr];omega);rw[hwr]at hq;exact hq) (by omega);rw[HSE.out]at hse;rw[HSA.out]at hsa;subst hse hsa;clear HE HA HP
    go_wp2_with fail
    refine(Os 3 j _ _ I23.out).mono ?_;rintro e w24 ⟨rfl,hb⟩;have HB24:=Za (Zb HB23.out hb);have R24:=Za (R23.below hb (nlr _));have I24:=Za (I23.below hb (nlr _));clear HB23 hb R23 I23;obtain⟨cR0,cR1⟩:=R24.c2;have f0:=R24.free 0;have f1:=R24.free 1
    go_wp2_with fail
    have hR:=(R24.set 0 (.int .i64 3)).set 1 (.int .i64 (j:Int));refine bodyPost_ret (results_cell_row rfl _ _ (w.heap.size+1) 65 _ (0,0) _ rfl hR Tryz.underlying65 rfl Tryz.sizeFault) rfl ⟨rfl,?_⟩
    exact((HB0.trans (HB24.mono HB0.size)).setCell (by show w.heap.size≤w.heap.size+1;omega) _).setCell (by show w.heap.size≤w.heap.size+1;omega) _
   by_cases hu2:x.sum<y2
   ·have hwr:Zq s.clock x=3:=by rw[HWT.out,if_pos (.inr hu2)]
    go_upto_region 19 with fail
    go_cut [148] (fun cc wx=>cc=.bool true∧Hid (Zh W2 wx))
    case first=>
     go_quiet (fail)
     go_wp2_with fail
     go_meet
     exact⟨by simp,by rw[←HW2.out];exact Za (Yp (Below.refl _ _) _)⟩
    obtain⟨rfl,HGR⟩:=hcut;obtain⟨w23,rfl⟩:∃w23,w23=wc:=⟨wc,rfl⟩;rw[HW2.out]at R22 I22 V22 L22 G22 HB22;have R23:=Za (R22.below HGR.out (nlr _));have I23:=Za (I22.below HGR.out (nlr _));have V23:=Za (V22.below HGR.out (nlr _));have L23:=Za (L22.below HGR.out (nlr _));have G23:=Za (G22.below HGR.out (nlr _));have HB23:=Za (Zb HB22.out HGR.out);clear R22 I22 V22 L22 G22 HB22 HGR C22 cV0 cV1 cV2 cG0 cG1 cG2 ec;obtain⟨hse,hsa⟩:=Qd HE1.out HEL.out HE.out HA.out (by have hq:=Ub (wr:=Zq s.clock) (cm:=Yr) (p:=p) (r:=s.tals.drop (j+1)) (x:=x) (by rw[hwr];omega);rw[hwr]at hq;exact hq) (by omega);rw[HSE.out]at hse;rw[HSA.out]at hsa;subst hse hsa;clear HE HA HP
    go_wp2_with fail
    refine(Os 3 j _ _ I23.out).mono ?_;rintro e w24 ⟨rfl,hb⟩;have HB24:=Za (Zb HB23.out hb);have R24:=Za (R23.below hb (nlr _));have I24:=Za (I23.below hb (nlr _));clear HB23 hb R23 I23;obtain⟨cR0,cR1⟩:=R24.c2;have f0:=R24.free 0;have f1:=R24.free 1
    go_wp2_with fail
    have hR:=(R24.set 0 (.int .i64 3)).set 1 (.int .i64 (j:Int));refine bodyPost_ret (results_cell_row rfl _ _ (w.heap.size+1) 65 _ (0,0) _ rfl hR Tryz.underlying65 rfl Tryz.sizeFault) rfl ⟨rfl,?_⟩
    exact((HB0.trans (HB24.mono HB0.size)).setCell (by show w.heap.size≤w.heap.size+1;omega) _).setCell (by show w.heap.size≤w.heap.size+1;omega) _
   have hwr:Zq s.clock x=0:=by rw[HWT.out,if_neg (by omega)]
   have HWR:=Za hwr;clear hwr
   go_upto_region 19 with fail
   go_cut [148] (fun cc wx=>cc=.bool false∧Hid (Zh W2 wx))
   case first=>
    go_quiet (fail)
    go_wp2_with fail
    go_meet
    exact⟨by simp,by rw[←HW2.out];exact Za (Yp (Below.refl _ _) _)⟩
   obtain⟨rfl,HGR⟩:=hcut;obtain⟨w23,rfl⟩:∃w23,w23=wc:=⟨wc,rfl⟩;rw[HW2.out]at R22 I22 V22 L22 G22 HB22;have R23:=Za (R22.below HGR.out (nlr _));have I23:=Za (I22.below HGR.out (nlr _));have V23:=Za (V22.below HGR.out (nlr _));have L23:=Za (L22.below HGR.out (nlr _));have G23:=Za (G22.below HGR.out (nlr _));have HB23:=Za (Zb HB22.out HGR.out);clear R22 I22 V22 L22 G22 HB22 HGR C22 cV0 cV1 cV2 cG0 cG1 cG2 ec;obtain⟨gi,HGI⟩:∃gi,Hid (w20.heap.size=gi):=⟨_,rfl⟩;rw[HGI.out]at I23 V23
   rcases HP.out with⟨hp,hk0⟩|⟨m,z,hkm,hz,hp⟩
   ·subst hp hk0;obtain⟨e1,e2⟩:=goE_go (wr:=Zq s.clock) (cm:=Yr) (p:=none) (r:=s.tals.drop (0+1)) (x:=x) HWR.out rfl;rw[e1]at HE;rw[e2]at HA;clear e1 e2;have HK:Hid (∀w',Zh w23 w'→w'.cell? ⟨gi,0,none⟩=some (.int .i64 0)):=fun w' hg=>(I23.below hg (nlr _)).get 0 rfl
    go_upto_region 21 with fail
    rw[HGI.out]
    go_cut [163] (fun cc wx=>cc=.bool false∧Hid (Zh w23 wx))
    case first=>
     refine wp_region_held_drew (S:=fun w'=>w'.cell? ⟨gi,0,none⟩=some (.int .i64 0)) (by kernel_rfl) (HK.out _ (Zf (Zi _))) (fun hHeld=>?_);refine ty 0 (.int .i64 0) ?_;refine ty 1 (.bool false) ?_;refine ty 2 (.bool false) ?_;refine ts 3 ?_;refine ts 4 ?_;refine ts 5 ?_;refine ts 6 ?_;refine ts 7 ?_;refine ts 8 ?_;refine ts 9 ?_;refine ts 10 ?_;refine ts 11 ?_;refine ty 12 (.bool false) ?_;refine wpAnyH_done (by kernel_rfl) ?_ _
     go_wp2_with fail
     go_meet
     exact⟨by simp,Zf (Zi _)⟩
    obtain⟨rfl,HGR⟩:=hcut;have HB24:=Za (Zb HB23.out HGR.out)
    go_wp2_with fail
    go_roundw
    case rel=>exact⟨0+1,some x,by omega,by go_num,HE,by rw[HA.out];unfold Hid;split <;> omega,.inr ⟨0,x,rfl,hx,rfl⟩,HB24⟩
    case measure=>simp[intOf];omega
   subst hp;obtain⟨b',off',hbb,t0,t1,t2⟩:=Jy L23.out hz;simp only[Option.some.injEq,Addr.mk.injEq,and_true]at hbb;obtain⟨rfl,rfl⟩:=hbb;obtain⟨q,HQ⟩:∃q,Hid (lessB z x=q):=⟨_,rfl⟩;have hm0:(0:Int)≤(m:Int):=by omega
   have hm1:(m:Int)<(s.tals.length:Int):=by omega
   have hkp:(0:Int)<(j:Int):=by omega
   have hkd:0<j:=by omega
   have hwk:IntKind.i64.wrap ((j:Int) - 1)=(m:Int):=by rw[hkm,wrapL (by omega) (by omega)];omega
   have HAH:Hid (∀w',Zh w23 w'→Calls Tryz.prog 76 #[.agg #[.int .i64 z.key,.int .i64 z.author,.int .i64 z.sum],.agg #[.int .i64 x.key,.int .i64 (ka:Int),.int .i64 x.sum]] w' fun e w''=>e=.returned (.bool q)∧Zh w23 w''):=fun w' hg=>by
    have h:=less_ref z x w';rw[HQ.out,HKA.out]at h;refine h.mono ?_;rintro e w'' ⟨rfl,hb⟩;exact⟨rfl,Zd hg hb⟩
   have HK:Hid (∀w',Zh w23 w'→w'.cell? ⟨gi,0,none⟩=some (.int .i64 (j:Int))∧w'.cell? ⟨w.heap.size,2,none⟩=some (.slice (some ⟨b,off,none⟩) s.tals.length cap3)∧(w'.cell? ⟨b,off+m*3,none⟩=some (.int .i64 z.key)∧w'.cell? ⟨b,off+m*3+1,none⟩=some (.int .i64 z.author)∧w'.cell? ⟨b,off+m*3+2,none⟩=some (.int .i64 z.sum))∧w'.cell? ⟨gi+1,0,none⟩=some (.int .i64 x.key)∧w'.cell? ⟨gi+1,1,none⟩=some (.int .i64 (ka:Int))∧w'.cell? ⟨gi+1,2,none⟩=some (.int .i64 x.sum)):=fun w' hg=>by
    have hi:=I23.below hg (nlr _);have hv:=V23.below hg (nlr _);obtain⟨b2,off2,hb2,hcs⟩:=Jy (L23.below hg (nlr _)) hz;simp only[Option.some.injEq,Addr.mk.injEq,and_true]at hb2;obtain⟨rfl,rfl⟩:=hb2;exact⟨hi.get 0 rfl,(G23.below hg (nlr _)).get 2 rfl,hcs,hv.get 0 rfl,hv.get 1 rfl,hv.get 2 rfl⟩
   clear hkm
   go_upto_region 21 with fail
   rw[HGI.out]
   go_cut [163] (fun cc wx=>cc=.bool (!q)∧Hid (Zh w23 wx))
   case first=>
    go_region_held3 (fun w'=>w'.cell? ⟨gi,0,none⟩=some (.int .i64 (j:Int))∧w'.cell? ⟨w.heap.size,2,none⟩=some (.slice (some ⟨b,off,none⟩) s.tals.length cap3)∧(w'.cell? ⟨b,off+m*3,none⟩=some (.int .i64 z.key)∧w'.cell? ⟨b,off+m*3+1,none⟩=some (.int .i64 z.author)∧w'.cell? ⟨b,off+m*3+2,none⟩=some (.int .i64 z.sum))∧w'.cell? ⟨gi+1,0,none⟩=some (.int .i64 x.key)∧w'.cell? ⟨gi+1,1,none⟩=some (.int .i64 (ka:Int))∧w'.cell? ⟨gi+1,2,none⟩=some (.int .i64 x.sum))
     ((refine HK.out _ ?_;(first|assumption|exact Zf (Zi _)|exact Zf (by assumption))))
     (first|(go_at_call 76;refine(HAH.out _ ?_).mono ?_;(first|assumption|exact Zf (Zi _)|exact Zf (by assumption));rintro e w' ⟨rfl,hgr⟩))
    all_goals (go_wp2_with fail;go_meet;exact⟨by simp,by assumption⟩)
   obtain⟨rfl,HGR⟩:=hcut;have R24:=Za (R23.below HGR.out (nlr _));have I24:=Za (I23.below HGR.out (nlr _));have HB24:=Za (Zb HB23.out HGR.out);obtain⟨w24,rfl⟩:∃w24,w24=wc:=⟨wc,rfl⟩;clear HK HAH HGR R23 I23 V23 L23 G23 HB23 t0 t1 t2
   cases q
   ·have hnot:(!false)=true:=rfl;have hnb:Yw Yr (some z) x=true:=by unfold Yw;rw[decide_eq_true_iff,lessB_ge];exact HQ.out
    obtain⟨hse,hsa⟩:=Qd HE1.out HEL.out HE.out HA.out (goE_nb (wr:=Zq s.clock) (cm:=Yr) (p:=some z) (r:=s.tals.drop (j+1)) (x:=x) HWR.out hnb) (by omega);rw[HSE.out]at hse;rw[HSA.out]at hsa;subst hse hsa;clear HE HA HP
    go_wp2_with fail
    refine(Os 2 j _ _ I24.out).mono ?_;rintro e w25 ⟨rfl,hb⟩;have HB25:=Za (Zb HB24.out hb);have R25:=Za (R24.below hb (nlr _));have I25:=Za (I24.below hb (nlr _));clear HB24 hb R24 I24;obtain⟨cR0,cR1⟩:=R25.c2;have f0:=R25.free 0;have f1:=R25.free 1
    go_wp2_with fail
    have hR:=(R25.set 0 (.int .i64 2)).set 1 (.int .i64 (j:Int));refine bodyPost_ret (results_cell_row rfl _ _ (w.heap.size+1) 65 _ (0,0) _ rfl hR Tryz.underlying65 rfl Tryz.sizeFault) rfl ⟨rfl,?_⟩
    exact((HB0.trans (HB25.mono HB0.size)).setCell (by show w.heap.size≤w.heap.size+1;omega) _).setCell (by show w.heap.size≤w.heap.size+1;omega) _
   have hnot:(!true)=false:=rfl;have hnb:Yw Yr (some z) x=false:=by unfold Yw;rw[decide_eq_false_iff_not,lessB_ge,HQ.out];simp
   obtain⟨e1,e2⟩:=goE_go (wr:=Zq s.clock) (cm:=Yr) (p:=some z) (r:=s.tals.drop (j+1)) (x:=x) HWR.out hnb;rw[e1]at HE;rw[e2]at HA;clear e1 e2 hnb
   go_wp2_with fail
   go_roundw
   case rel=>exact⟨j+1,some x,by omega,by go_num,HE,by rw[HA.out];unfold Hid;split <;> omega,.inr ⟨j,x,rfl,hx,rfl⟩,HB24⟩
   case measure=>simp[intOf];omega
  have hkl:s.tals.drop j=[]:=List.drop_eq_nil_of_le (by omega);have hlt':¬(j:Int)<(s.tals.length:Int):=by omega
  rw[hkl]at HE;obtain⟨hse,hsa⟩:=fault_none HE1.out HEL.out HE.out;rw[HSE.out]at hse;rw[HSA.out]at hsa;subst hse hsa;clear HE HA HP hkl;obtain⟨r0,r1⟩:=R20.c2;have f0:=R20.free 0;have f1:=R20.free 1
  go_wp2_with fail
  have hR:=(R20.set 0 (.int .i64 0)).set 1 (.int .i64 0);refine bodyPost_ret (results_cell_row rfl _ _ (w.heap.size+1) 65 _ (0,0) _ rfl hR Tryz.underlying65 rfl Tryz.sizeFault) rfl ⟨rfl,?_⟩
  exact((HB0.trans (HB20.mono HB0.size)).setCell (by show w.heap.size≤w.heap.size+1;omega) _).setCell (by show w.heap.size≤w.heap.size+1;omega) _
 have hE':(E1 != 0)=true:=by simp[hE]
 have hse:stE s n=E1:=by unfold stE;rw[HE1.out,if_pos hE]
 have hsa:stA s n=0:=by unfold stA;rw[HE1.out,if_pos hE]
 rw[HSE.out]at hse;rw[HSA.out]at hsa;subst hse hsa;clear hE
 go_enter Tryz.func32,Tryz.ntmps32
 obtain⟨cG0,cG1,cG2⟩:=G0.c3
 go_wp2_with fail
 refine(Xy _ s.clock n _ C0.out).mono ?_;rintro e w' ⟨rfl,hw'⟩;rw[hw'];clear hw' w';rw[HE1.out];obtain⟨cR0,cR1⟩:=R0.c2;have f0:=R0.free 0;have f1:=R0.free 1
 go_wp2_with fail
 have hR:=Box.new (w.alloc (.cells #[.slice a1 s.clock.length cap1,.slice a2 s.lives.length cap2,.slice a3 s.tals.length cap3] 27)) [.int .i64 E,.int .i64 0] 65;rw[World.size_alloc]at hR;refine bodyPost_ret (results_cell_row rfl _ _ (w.heap.size+1) 65 _ (0,0) _ rfl hR Tryz.underlying65 rfl Tryz.sizeFault) rfl ⟨rfl,?_⟩;exact Below.plus (bpl w _) _
end Go.Proofs.YtfhecilhcofboaaGreat
