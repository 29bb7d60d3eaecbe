/- The document's own answer, chapter 4: Ahead, Less, has, Put. -/
import Derived.Test.YtfhecilhcofboaaGreatStE
import Derived.Test.YtfhecilhcofboaaGreatStL
import Derived.Test.YtfhecilhcofboaaGreatJoB
namespace Go.Proofs.YtfhecilhcofboaaGreat
open Go.RowKit

section
variable {a b:Zk}
theorem aheadB_set(hs:¬a.set=b.set):Xc a b=b.set:=by
 unfold Xc
 cases ha:a.set <;> cases hb:b.set <;> simp_all
theorem aheadB_0(hs:a.set=b.set)(h:¬a.key=b.key):Xc a b=decide (a.key<b.key):=by
 unfold Xc
 cases hb:b.set <;> simp[hs,hb,h]
theorem aheadB_1(hs:a.set=b.set)(h0:a.key=b.key)(h:¬a.item=b.item):Xc a b=decide (a.item<b.item):=by
 unfold Xc
 cases hb:b.set <;> simp[hs,hb,h0,h]
theorem aheadB_2(hs:a.set=b.set)(h0:a.key=b.key)(h1:a.item=b.item)(h:¬a.author=b.author):Xc a b=decide (a.author<b.author):=by
 unfold Xc
 cases hb:b.set <;> simp[hs,hb,h0,h1,h]
theorem aheadB_3(hs:a.set=b.set)(h0:a.key=b.key)(h1:a.item=b.item)(h2:a.author=b.author)(_:¬a.seq=b.seq):Xc a b=decide (a.seq<b.seq):=by
 unfold Xc
 cases hb:b.set <;> simp[hs,hb,h0,h1,h2]
theorem aheadB_4(hs:a.set=b.set)(h0:a.key=b.key)(h1:a.item=b.item)(h2:a.author=b.author)(h3:a.seq=b.seq):Xc a b=false:=by
 unfold Xc
 cases hb:b.set <;> simp[hs,hb,h0,h1,h2,h3]
end
set_option maxRecDepth 100000 in
set_option maxHeartbeats 2000000 in
theorem ahead_same_true(k1 i1 u1 q1 k2 i2 u2 q2:Int)(w:World):Calls Tryz.prog 74 #[.agg #[.bool true,.int .i64 k1,.int .i64 i1,.int .i64 u1,.int .i64 q1],.agg #[.bool true,.int .i64 k2,.int .i64 i2,.int .i64 u2,.int .i64 q2]] w fun e w'=>e=.returned (.bool (Xc ⟨true,k1,i1,u1,q1⟩ ⟨true,k2,i2,u2,q2⟩))∧Below w.heap.size w w':=by
 obtain⟨r,HR⟩:∃r,Hid (Xc ⟨true,k1,i1,u1,q1⟩ ⟨true,k2,i2,u2,q2⟩=r):=⟨_,rfl⟩;rw[HR.out];have hb0:=Below.plus (Below.plus (bpl w (.cells #[.bool true,.int .i64 k1,.int .i64 i1,.int .i64 u1,.int .i64 q1] 106)) (.cells #[.bool true,.int .i64 k2,.int .i64 i2,.int .i64 u2,.int .i64 q2] 106)) (.cells #[.int .i64 k1,.int .i64 k2,.int .i64 i1,.int .i64 i2,.int .i64 u1,.int .i64 u2,.int .i64 q1,.int .i64 q2] 156);have Z0:=Za (Box.new ((w.alloc (.cells #[.bool true,.int .i64 k1,.int .i64 i1,.int .i64 u1,.int .i64 q1] 106)).alloc (.cells #[.bool true,.int .i64 k2,.int .i64 i2,.int .i64 u2,.int .i64 q2] 106)) [.int .i64 k1,.int .i64 k2,.int .i64 i1,.int .i64 i2,.int .i64 u1,.int .i64 u2,.int .i64 q1,.int .i64 q2] 156);simp only[World.size_alloc]at Z0;have HB0:=Za hb0;obtain⟨W0,HW0⟩:∃W0,Hid (((w.alloc (.cells #[.bool true,.int .i64 k1,.int .i64 i1,.int .i64 u1,.int .i64 q1] 106)).alloc (.cells #[.bool true,.int .i64 k2,.int .i64 i2,.int .i64 u2,.int .i64 q2] 106)).alloc (.cells #[.int .i64 k1,.int .i64 k2,.int .i64 i1,.int .i64 i2,.int .i64 u1,.int .i64 u2,.int .i64 q1,.int .i64 q2] 156)=W0):=⟨_,rfl⟩;rw[HW0.out]at Z0 HB0;clear hb0
 go_enter Tryz.func74,Tryz.ntmps74
 go_wp2_with fail
 rw[HW0.out]
 go_loopw [36] (fun i wr=>∃q:Int,(q=0∨q=1∨q=2∨q=3∨q=4)∧i=.int .i64 q∧Hid (1≤q→k1=k2)∧Hid (2≤q→i1=i2)∧Hid (3≤q→u1=u2)∧Hid (4≤q→q1=q2)∧Hid (Below W0.heap.size W0 wr)) (fun i _=>4 - (intOf i).toNat)
 case atStart=>exact⟨0,.inl rfl,rfl,Za (fun h=>by omega),Za (fun h=>by omega),Za (fun h=>by omega),Za (fun h=>by omega),Za (Below.refl _ _)⟩
 obtain⟨q,hq,rfl,H1,H2,H3,H4,HB20⟩:=hrel;obtain⟨w20,rfl⟩:∃w20,w20=wr:=⟨wr,rfl⟩;have Z20:=Za (Z0.below HB20.out (nlr _));clear Z0
 rcases hq with rfl|rfl|rfl|rfl|rfl
 ·have z0:=Z20.get 0 rfl;have z1:=Z20.get 1 rfl
  by_cases he:k1=k2
  ·have he':(k1 != k2)=false:=by simp[he]
   have HEQ:=Za he;clear he
   go_wp2_with fail
   go_roundw
   case rel=>exact⟨1,by omega,by go_num,Za (fun _=>HEQ.out),Za (fun h=>by omega),Za (fun h=>by omega),Za (fun h=>by omega),Za (Zb HB20.out (bpl w20 _))⟩
   case measure=>simp[intOf]
  have he':(k1 != k2)=true:=by simp[he]
  have hr:r=decide (k1<k2):=by rw[←HR.out];exact aheadB_0 rfl he
  subst hr;clear he
  go_wp2_with fail
  go_ret
  exact⟨rfl,HB0.trans ((Zb HB20.out (bpl w20 _)).mono HB0.size)⟩
 ·have z0:=Z20.get 2 rfl;have z1:=Z20.get 3 rfl
  by_cases he:i1=i2
  ·have he':(i1 != i2)=false:=by simp[he]
   have HEQ:=Za he;clear he
   go_wp2_with fail
   go_roundw
   case rel=>exact⟨2,by omega,by go_num,Za (fun _=>H1.out (by omega)),Za (fun _=>HEQ.out),Za (fun h=>by omega),Za (fun h=>by omega),Za (Zb HB20.out (bpl w20 _))⟩
   case measure=>simp[intOf]
  have he':(i1 != i2)=true:=by simp[he]
  have hr:r=decide (i1<i2):=by rw[←HR.out];exact aheadB_1 rfl (H1.out (by omega)) he
  subst hr;clear he
  go_wp2_with fail
  go_ret
  exact⟨rfl,HB0.trans ((Zb HB20.out (bpl w20 _)).mono HB0.size)⟩
 ·have z0:=Z20.get 4 rfl;have z1:=Z20.get 5 rfl
  by_cases he:u1=u2
  ·have he':(u1 != u2)=false:=by simp[he]
   have HEQ:=Za he;clear he
   go_wp2_with fail
   go_roundw
   case rel=>exact⟨3,by omega,by go_num,Za (fun _=>H1.out (by omega)),Za (fun _=>H2.out (by omega)),Za (fun _=>HEQ.out),Za (fun h=>by omega),Za (Zb HB20.out (bpl w20 _))⟩
   case measure=>simp[intOf]
  have he':(u1 != u2)=true:=by simp[he]
  have hr:r=decide (u1<u2):=by rw[←HR.out];exact aheadB_2 rfl (H1.out (by omega)) (H2.out (by omega)) he
  subst hr;clear he
  go_wp2_with fail
  go_ret
  exact⟨rfl,HB0.trans ((Zb HB20.out (bpl w20 _)).mono HB0.size)⟩
 ·have z0:=Z20.get 6 rfl;have z1:=Z20.get 7 rfl
  by_cases he:q1=q2
  ·have he':(q1 != q2)=false:=by simp[he]
   have HEQ:=Za he;clear he
   go_wp2_with fail
   go_roundw
   case rel=>exact⟨4,by omega,by go_num,Za (fun _=>H1.out (by omega)),Za (fun _=>H2.out (by omega)),Za (fun _=>H3.out (by omega)),Za (fun _=>HEQ.out),Za (Zb HB20.out (bpl w20 _))⟩
   case measure=>simp[intOf]
  have he':(q1 != q2)=true:=by simp[he]
  have hr:r=decide (q1<q2):=by rw[←HR.out];exact aheadB_3 rfl (H1.out (by omega)) (H2.out (by omega)) (H3.out (by omega)) he
  subst hr;clear he
  go_wp2_with fail
  go_ret
  exact⟨rfl,HB0.trans ((Zb HB20.out (bpl w20 _)).mono HB0.size)⟩
 have hr:r=false:=by rw[←HR.out];exact aheadB_4 rfl (H1.out (by omega)) (H2.out (by omega)) (H3.out (by omega)) (H4.out (by omega))
 subst hr
 go_wp2_with fail
 go_ret
 exact⟨rfl,HB0.trans (HB20.mono HB0.size)⟩
set_option maxRecDepth 100000 in
set_option maxHeartbeats 2000000 in
theorem ahead_same_false(k1 i1 u1 q1 k2 i2 u2 q2:Int)(w:World):Calls Tryz.prog 74 #[.agg #[.bool false,.int .i64 k1,.int .i64 i1,.int .i64 u1,.int .i64 q1],.agg #[.bool false,.int .i64 k2,.int .i64 i2,.int .i64 u2,.int .i64 q2]] w fun e w'=>e=.returned (.bool (Xc ⟨false,k1,i1,u1,q1⟩ ⟨false,k2,i2,u2,q2⟩))∧Below w.heap.size w w':=by
 obtain⟨r,HR⟩:∃r,Hid (Xc ⟨false,k1,i1,u1,q1⟩ ⟨false,k2,i2,u2,q2⟩=r):=⟨_,rfl⟩;rw[HR.out];have hb0:=Below.plus (Below.plus (bpl w (.cells #[.bool false,.int .i64 k1,.int .i64 i1,.int .i64 u1,.int .i64 q1] 106)) (.cells #[.bool false,.int .i64 k2,.int .i64 i2,.int .i64 u2,.int .i64 q2] 106)) (.cells #[.int .i64 k1,.int .i64 k2,.int .i64 i1,.int .i64 i2,.int .i64 u1,.int .i64 u2,.int .i64 q1,.int .i64 q2] 156);have Z0:=Za (Box.new ((w.alloc (.cells #[.bool false,.int .i64 k1,.int .i64 i1,.int .i64 u1,.int .i64 q1] 106)).alloc (.cells #[.bool false,.int .i64 k2,.int .i64 i2,.int .i64 u2,.int .i64 q2] 106)) [.int .i64 k1,.int .i64 k2,.int .i64 i1,.int .i64 i2,.int .i64 u1,.int .i64 u2,.int .i64 q1,.int .i64 q2] 156);simp only[World.size_alloc]at Z0;have HB0:=Za hb0;obtain⟨W0,HW0⟩:∃W0,Hid (((w.alloc (.cells #[.bool false,.int .i64 k1,.int .i64 i1,.int .i64 u1,.int .i64 q1] 106)).alloc (.cells #[.bool false,.int .i64 k2,.int .i64 i2,.int .i64 u2,.int .i64 q2] 106)).alloc (.cells #[.int .i64 k1,.int .i64 k2,.int .i64 i1,.int .i64 i2,.int .i64 u1,.int .i64 u2,.int .i64 q1,.int .i64 q2] 156)=W0):=⟨_,rfl⟩;rw[HW0.out]at Z0 HB0;clear hb0
 go_enter Tryz.func74,Tryz.ntmps74
 go_wp2_with fail
 rw[HW0.out]
 go_loopw [36] (fun i wr=>∃q:Int,(q=0∨q=1∨q=2∨q=3∨q=4)∧i=.int .i64 q∧Hid (1≤q→k1=k2)∧Hid (2≤q→i1=i2)∧Hid (3≤q→u1=u2)∧Hid (4≤q→q1=q2)∧Hid (Below W0.heap.size W0 wr)) (fun i _=>4 - (intOf i).toNat)
 case atStart=>exact⟨0,.inl rfl,rfl,Za (fun h=>by omega),Za (fun h=>by omega),Za (fun h=>by omega),Za (fun h=>by omega),Za (Below.refl _ _)⟩
 obtain⟨q,hq,rfl,H1,H2,H3,H4,HB20⟩:=hrel;obtain⟨w20,rfl⟩:∃w20,w20=wr:=⟨wr,rfl⟩;have Z20:=Za (Z0.below HB20.out (nlr _));clear Z0
 rcases hq with rfl|rfl|rfl|rfl|rfl
 ·have z0:=Z20.get 0 rfl;have z1:=Z20.get 1 rfl
  by_cases he:k1=k2
  ·have he':(k1 != k2)=false:=by simp[he]
   have HEQ:=Za he;clear he
   go_wp2_with fail
   go_roundw
   case rel=>exact⟨1,by omega,by go_num,Za (fun _=>HEQ.out),Za (fun h=>by omega),Za (fun h=>by omega),Za (fun h=>by omega),Za (Zb HB20.out (bpl w20 _))⟩
   case measure=>simp[intOf]
  have he':(k1 != k2)=true:=by simp[he]
  have hr:r=decide (k1<k2):=by rw[←HR.out];exact aheadB_0 rfl he
  subst hr;clear he
  go_wp2_with fail
  go_ret
  exact⟨rfl,HB0.trans ((Zb HB20.out (bpl w20 _)).mono HB0.size)⟩
 ·have z0:=Z20.get 2 rfl;have z1:=Z20.get 3 rfl
  by_cases he:i1=i2
  ·have he':(i1 != i2)=false:=by simp[he]
   have HEQ:=Za he;clear he
   go_wp2_with fail
   go_roundw
   case rel=>exact⟨2,by omega,by go_num,Za (fun _=>H1.out (by omega)),Za (fun _=>HEQ.out),Za (fun h=>by omega),Za (fun h=>by omega),Za (Zb HB20.out (bpl w20 _))⟩
   case measure=>simp[intOf]
  have he':(i1 != i2)=true:=by simp[he]
  have hr:r=decide (i1<i2):=by rw[←HR.out];exact aheadB_1 rfl (H1.out (by omega)) he
  subst hr;clear he
  go_wp2_with fail
  go_ret
  exact⟨rfl,HB0.trans ((Zb HB20.out (bpl w20 _)).mono HB0.size)⟩
 ·have z0:=Z20.get 4 rfl;have z1:=Z20.get 5 rfl
  by_cases he:u1=u2
  ·have he':(u1 != u2)=false:=by simp[he]
   have HEQ:=Za he;clear he
   go_wp2_with fail
   go_roundw
   case rel=>exact⟨3,by omega,by go_num,Za (fun _=>H1.out (by omega)),Za (fun _=>H2.out (by omega)),Za (fun _=>HEQ.out),Za (fun h=>by omega),Za (Zb HB20.out (bpl w20 _))⟩
   case measure=>simp[intOf]
  have he':(u1 != u2)=true:=by simp[he]
  have hr:r=decide (u1<u2):=by rw[←HR.out];exact aheadB_2 rfl (H1.out (by omega)) (H2.out (by omega)) he
  subst hr;clear he
  go_wp2_with fail
  go_ret
  exact⟨rfl,HB0.trans ((Zb HB20.out (bpl w20 _)).mono HB0.size)⟩
 ·have z0:=Z20.get 6 rfl;have z1:=Z20.get 7 rfl
  by_cases he:q1=q2
  ·have he':(q1 != q2)=false:=by simp[he]
   have HEQ:=Za he;clear he
   go_wp2_with fail
   go_roundw
   case rel=>exact⟨4,by omega,by go_num,Za (fun _=>H1.out (by omega)),Za (fun _=>H2.out (by omega)),Za (fun _=>H3.out (by omega)),Za (fun _=>HEQ.out),Za (Zb HB20.out (bpl w20 _))⟩
   case measure=>simp[intOf]
  have he':(q1 != q2)=true:=by simp[he]
  have hr:r=decide (q1<q2):=by rw[←HR.out];exact aheadB_3 rfl (H1.out (by omega)) (H2.out (by omega)) (H3.out (by omega)) he
  subst hr;clear he
  go_wp2_with fail
  go_ret
  exact⟨rfl,HB0.trans ((Zb HB20.out (bpl w20 _)).mono HB0.size)⟩
 have hr:r=false:=by rw[←HR.out];exact aheadB_4 rfl (H1.out (by omega)) (H2.out (by omega)) (H3.out (by omega)) (H4.out (by omega))
 subst hr
 go_wp2_with fail
 go_ret
 exact⟨rfl,HB0.trans (HB20.mono HB0.size)⟩
set_option maxRecDepth 100000 in
set_option maxHeartbeats 2000000 in
theorem ahead_other_true(k1 i1 u1 q1 k2 i2 u2 q2:Int)(w:World):Calls Tryz.prog 74 #[.agg #[.bool true,.int .i64 k1,.int .i64 i1,.int .i64 u1,.int .i64 q1],.agg #[.bool false,.int .i64 k2,.int .i64 i2,.int .i64 u2,.int .i64 q2]] w fun e w'=>e=.returned (.bool (Xc ⟨true,k1,i1,u1,q1⟩ ⟨false,k2,i2,u2,q2⟩))∧Below w.heap.size w w':=by
 have hr:Xc ⟨true,k1,i1,u1,q1⟩ ⟨false,k2,i2,u2,q2⟩=false:=aheadB_set (by simp);rw[hr];have hb0:=Below.plus (bpl w (.cells #[.bool true,.int .i64 k1,.int .i64 i1,.int .i64 u1,.int .i64 q1] 106)) (.cells #[.bool false,.int .i64 k2,.int .i64 i2,.int .i64 u2,.int .i64 q2] 106)
 go_enter Tryz.func74,Tryz.ntmps74
 go_wp2_with fail
 go_ret
 exact⟨rfl,hb0⟩
set_option maxRecDepth 100000 in
set_option maxHeartbeats 2000000 in
theorem ahead_other_false(k1 i1 u1 q1 k2 i2 u2 q2:Int)(w:World):Calls Tryz.prog 74 #[.agg #[.bool false,.int .i64 k1,.int .i64 i1,.int .i64 u1,.int .i64 q1],.agg #[.bool true,.int .i64 k2,.int .i64 i2,.int .i64 u2,.int .i64 q2]] w fun e w'=>e=.returned (.bool (Xc ⟨false,k1,i1,u1,q1⟩ ⟨true,k2,i2,u2,q2⟩))∧Below w.heap.size w w':=by
 have hr:Xc ⟨false,k1,i1,u1,q1⟩ ⟨true,k2,i2,u2,q2⟩=true:=aheadB_set (by simp);rw[hr];have hb0:=Below.plus (bpl w (.cells #[.bool false,.int .i64 k1,.int .i64 i1,.int .i64 u1,.int .i64 q1] 106)) (.cells #[.bool true,.int .i64 k2,.int .i64 i2,.int .i64 u2,.int .i64 q2] 106)
 go_enter Tryz.func74,Tryz.ntmps74
 go_wp2_with fail
 go_ret
 exact⟨rfl,hb0⟩
theorem ahead_ref(x y:Zk)(w:World):Calls Tryz.prog 74 #[.agg #[.bool x.set,.int .i64 x.key,.int .i64 x.item,.int .i64 x.author,.int .i64 x.seq],.agg #[.bool y.set,.int .i64 y.key,.int .i64 y.item,.int .i64 y.author,.int .i64 y.seq]] w fun e w'=>e=.returned (.bool (Xc x y))∧Below w.heap.size w w':=by
 obtain⟨s1,k1,i1,u1,q1⟩:=x;obtain⟨s2,k2,i2,u2,q2⟩:=y
 cases s1 <;> cases s2
 ·exact ahead_same_false k1 i1 u1 q1 k2 i2 u2 q2 w
 ·exact ahead_other_false k1 i1 u1 q1 k2 i2 u2 q2 w
 ·exact ahead_other_true k1 i1 u1 q1 k2 i2 u2 q2 w
 exact ahead_same_true k1 i1 u1 q1 k2 i2 u2 q2 w
def lessB(a b:Tal):Bool:=decide (a.key<b.key)||(decide (a.key=b.key)&&decide (a.author<b.author))
theorem lessB_iff{a b:Tal}:lessB a b=true↔Jb a b:=by
 unfold lessB Jb
 simp
set_option maxRecDepth 100000 in
set_option maxHeartbeats 2000000 in
theorem less_ref(x y:Tal)(w:World):Calls Tryz.prog 76 #[.agg #[.int .i64 x.key,.int .i64 x.author,.int .i64 x.sum],.agg #[.int .i64 y.key,.int .i64 y.author,.int .i64 y.sum]] w fun e w'=>e=.returned (.bool (lessB x y))∧Below w.heap.size w w':=by
 obtain⟨k1,u1,q1⟩:=x;obtain⟨k2,u2,q2⟩:=y;have hb0:=Below.plus (bpl w (.cells #[.int .i64 k1,.int .i64 u1,.int .i64 q1] 108)) (.cells #[.int .i64 k2,.int .i64 u2,.int .i64 q2] 108)
 rcases Int.lt_trichotomy k1 k2 with h|h|h
 ·have hr:lessB ⟨k1,u1,q1⟩ ⟨k2,u2,q2⟩=true:=by unfold lessB;simp[h]
  rw[hr]
  go_enter Tryz.func76,Tryz.ntmps76
  go_wp2_with fail
  go_ret
  exact⟨rfl,hb0⟩
 ·subst h;have hr:lessB ⟨k1,u1,q1⟩ ⟨k1,u2,q2⟩=decide (u1<u2):=by unfold lessB;simp
  rw[hr]
  go_enter Tryz.func76,Tryz.ntmps76
  go_wp2_with fail
  go_ret
  exact⟨rfl,hb0⟩
 have hr:lessB ⟨k1,u1,q1⟩ ⟨k2,u2,q2⟩=false:=by unfold lessB;simp;omega
 have h1:¬k1<k2:=by omega
 have h2:¬k1=k2:=by omega
 have h3:(k1==k2)=false:=by simp[h2]
 rw[hr];clear h h2
 go_enter Tryz.func76,Tryz.ntmps76
 go_wp2_with fail
 go_ret
 exact⟨rfl,hb0⟩
theorem live_part(y x:Zk):y=x∨(¬y=x∧((y.set==x.set)=false∨((y.set==x.set)=true∧((y.key==x.key)=false∨((y.key==x.key)=true∧((y.item==x.item)=false∨((y.item==x.item)=true∧((y.author==x.author)=false∨((y.author==x.author)=true∧(y.seq==x.seq)=false))))))))):=by
 obtain⟨a1,a2,a3,a4,a5⟩:=y;obtain⟨b1,b2,b3,b4,b5⟩:=x;simp only[Zk.mk.injEq]
 by_cases h1:a1=b1
 ·by_cases h2:a2=b2
  ·by_cases h3:a3=b3
   ·by_cases h4:a4=b4
    ·by_cases h5:a5=b5
     ·exact .inl ⟨h1,h2,h3,h4,h5⟩
     exact .inr ⟨fun h=>h5 h.2.2.2.2,.inr ⟨by simp[h1],.inr ⟨by simp[h2],.inr ⟨by simp[h3],.inr ⟨by simp[h4],by simp[h5]⟩⟩⟩⟩⟩
    exact .inr ⟨fun h=>h4 h.2.2.2.1,.inr ⟨by simp[h1],.inr ⟨by simp[h2],.inr ⟨by simp[h3],.inl (by simp[h4])⟩⟩⟩⟩
   exact .inr ⟨fun h=>h3 h.2.2.1,.inr ⟨by simp[h1],.inr ⟨by simp[h2],.inl (by simp[h3])⟩⟩⟩
  exact .inr ⟨fun h=>h2 h.2.1,.inr ⟨by simp[h1],.inl (by simp[h2])⟩⟩
 exact .inr ⟨fun h=>h1 h.1,.inl (by simp[h1])⟩
theorem mem_take_one{l:List Zk}{k:Nat}{y x:Zk}(h:l[k]? =some y):x ∈ l.take (k+1)↔x ∈ l.take k∨x=y:=by
 obtain⟨hk,rfl⟩:=List.getElem?_eq_some_iff.1 h;rw[List.take_succ_eq_append_getElem hk,List.mem_append]
 simp
def isIn(l:List Zk)(x:Zk):Bool:=l.any fun y=>decide (Yj y x=0)
theorem isIn_iff{l:List Zk}{x:Zk}:isIn l x=true↔x ∈ l:=by
 unfold isIn;rw[List.any_eq_true]
 constructor
 ·rintro⟨y,hy,h⟩;rw[decide_eq_true_iff,zE]at h;subst h;exact hy
 intro h;exact⟨x,h,by rw[decide_eq_true_iff,zE]⟩
set_option maxRecDepth 100000 in
set_option maxHeartbeats 2000000 in
theorem yE(v:Value)(l:List Zk)(x:Zk)(w:World)(h:Yf 5 Zv w v l):
  Calls Tryz.prog 95 #[v,.agg #[.bool x.set,.int .i64 x.key,.int .i64 x.item,.int .i64 x.author,.int .i64 x.seq]] w fun e w'=>e=.returned (.bool (isIn l x))∧Below w.heap.size w w':=by
 obtain⟨a,cap,rfl,-,-,-⟩:=id h;have hll:=h.len_le;have hb0:=bpl w (.cells #[.bool x.set,.int .i64 x.key,.int .i64 x.item,.int .i64 x.author,.int .i64 x.seq] 106);have L0:=Za (h.below hb0 (nlr _));have X0:=Za (Box.new w [.bool x.set,.int .i64 x.key,.int .i64 x.item,.int .i64 x.author,.int .i64 x.seq] 106);have HB0:=Za hb0;obtain⟨W0,HW0⟩:∃W0,Hid (w.alloc (.cells #[.bool x.set,.int .i64 x.key,.int .i64 x.item,.int .i64 x.author,.int .i64 x.seq] 106)=W0):=⟨_,rfl⟩;rw[HW0.out]at L0 X0 HB0;clear h hb0;obtain⟨r,HR⟩:∃r,Hid (isIn l x=r):=⟨_,rfl⟩;rw[HR.out]
 go_enter Tryz.func95,Tryz.ntmps95
 go_wp2_with fail
 rw[HW0.out]
 go_loopw [9] (fun i wr=>∃k:Nat,k≤l.length∧i=.int .i64 k∧Hid (x ∉ l.take k)∧Hid (Below W0.heap.size W0 wr)) (fun i _=>l.length - (intOf i).toNat)
 case atStart=>exact⟨0,Nat.zero_le _,rfl,by simp[Hid],Za (Below.refl _ _)⟩
 obtain⟨k,hk,rfl,HN,HB1⟩:=hrel;obtain⟨w1,rfl⟩:∃w1,w1=wr:=⟨wr,rfl⟩
 by_cases hlt:k<l.length
 ·obtain⟨y,hy⟩:∃y,l[k]? =some y:=⟨_,List.getElem?_eq_getElem hlt⟩;obtain⟨b,off,rfl,d0,d1,d2,d3,d4⟩:=Va (L0.below HB1.out (nlr _)) hy;have hlt':(k:Int)<(l.length:Int):=by omega
  have hbp:=bpl w1 (.cells #[.bool y.set,.int .i64 y.key,.int .i64 y.item,.int .i64 y.author,.int .i64 y.seq] 106);have X2:=Za ((X0.below HB1.out (nlr _)).below hbp (nlr _));have HB2:=Za (Zb HB1.out hbp);have HMS:=Za (mem_take_one (x:=x) hy);have HMY:=Za (List.mem_of_getElem? hy);clear hbp HB1 X0 L0 hy;obtain⟨m0,m1,m2,m3,m4⟩:=X2.c5
  rcases live_part x y with rfl|⟨hne,hw⟩
  ·have hr:r=true:=by rw[←HR.out];exact isIn_iff.2 HMY.out
   subst hr
   go_wp2_with fail
   go_ret
   exact⟨rfl,HB0.trans (HB2.mono HB0.size)⟩
  have HF:Hid (x ∉ l.take (k+1)):=by
   unfold Hid;rw[HMS.out]
   rintro(h|h)
   ·exact HN.out h
   exact hne h
  clear hne
  rcases hw with h1|⟨h1,h2|⟨h2,h3|⟨h3,h4|⟨h4,h5⟩⟩⟩⟩
  all_goals
   go_wp2_with fail
   go_roundw
   case rel=>exact⟨k+1,by omega,by go_num,HF,HB2⟩
   case measure=>simp[intOf];omega
 have hkl:l.take k=l:=List.take_of_length_le (by omega);rw[hkl]at HN;have hr:r=false:=by rw[←HR.out,←Bool.not_eq_true,isIn_iff];exact HN.out
 subst hr;have hlt':¬(k:Int)<(l.length:Int):=by omega
 go_wp2_with fail
 go_ret
 exact⟨rfl,HB0.trans (HB1.mono HB0.size)⟩

theorem insL_spot{x:Zk}:∀{l:List Zk} {k:Nat} {y:Zk},l[k]? =some y→(∀z ∈ l.take k,Xc x z=false)→Xc x y=true→Js x l=l.take k++x::l.drop k
 |[],k,y,h,_,_=>by simp at h
 |z::r,0,y,h,_,ha=>by
  simp only[List.getElem?_cons_zero,Option.some.injEq]at h;subst h
  simp[Js,ha]
 |z::r,k+1,y,h,hn,ha=>by
  have hz:=hn z (by simp);rw[Js,if_neg (by rw[hz];simp),insL_spot (l:=r) (k:=k) (by simpa using h) (fun q hq=>hn q (by simp[hq])) ha]
  simp
theorem insL_last{x:Zk}:∀{l:List Zk},(∀z ∈ l,Xc x z=false)→Js x l=l++[x]
 |[],_=>rfl
 |z::r,hn=>by
  have hz:=hn z (by simp);rw[Js,if_neg (by rw[hz];simp),insL_last (fun q hq=>hn q (List.mem_cons_of_mem _ hq))];rfl
theorem insL_len{x:Zk}:∀{l:List Zk},(Js x l).length=l.length+1
 |[]=>rfl
 |z::r=>by
  unfold Js
  split
  ·simp
  simp[insL_len (l:=r)]
set_option maxRecDepth 100000 in
set_option maxHeartbeats 2000000 in
theorem put_ref(v:Value)(l:List Zk)(x:Zk)(w:World)(h:Yf 5 Zv w v l)(hbig:l.length≤1000000000):
  Calls Tryz.prog 85 #[v,.agg #[.bool x.set,.int .i64 x.key,.int .i64 x.item,.int .i64 x.author,.int .i64 x.seq]] w fun e w'=>∃rv,e=.returned rv∧Xm 106 5 Zv w' w.heap.size rv (Js x l)∧Below w.heap.size w w':=by
 obtain⟨i0,hi,hz0,hz1,hz2⟩:=info_parts Tryz.infoLive;obtain⟨a,cap,rfl,-,-,-⟩:=id h;have hll:=h.len_le;have hb0:=bpl w (.cells #[.bool x.set,.int .i64 x.key,.int .i64 x.item,.int .i64 x.author,.int .i64 x.seq] 106);have L0:=Za (h.below hb0 (nlr _));have X0:=Za (Box.new w [.bool x.set,.int .i64 x.key,.int .i64 x.item,.int .i64 x.author,.int .i64 x.seq] 106);have HB0:=Za hb0;obtain⟨W0,HW0⟩:∃W0,Hid (w.alloc (.cells #[.bool x.set,.int .i64 x.key,.int .i64 x.item,.int .i64 x.author,.int .i64 x.seq] 106)=W0):=⟨_,rfl⟩;have HLE:Hid (w.heap.size≤W0.heap.size):=by unfold Hid;rw[←HW0.out];simp
 rw[HW0.out]at L0 X0 HB0;clear h hb0
 go_enter Tryz.func85,Tryz.ntmps85
 go_wp2_with fail
 rw[HW0.out]
 go_loopw [5,6,11] (fun o d i wr=>∃(k:Nat) (t:Bool) (lo:List Zk),k≤l.length∧i=.int .i64 k∧d=.bool t∧Hid (lo.length≤k+1)∧Hid (t=false→lo=l.take k∧∀z ∈ l.take k,Xc x z=false)∧Hid (t=true→lo++l.drop k=Js x l)∧Hid (Xm 106 5 Zv wr W0.heap.size o lo)∧Hid (Below W0.heap.size W0 wr)) (fun _ _ i _=>l.length - (intOf i).toNat)
 case atStart=>exact⟨0,false,[],Nat.zero_le _,rfl,rfl,by simp[Hid],Za (fun _=>⟨rfl,fun z hz=>by simp at hz⟩),Za (fun h=>by cases h),Xm.nil _ _,Za (Below.refl _ _)⟩
 obtain⟨k,t,lo,hk,rfl,rfl,HPL0,HF,HT,O10,HB10⟩:=hrel;obtain⟨w10,rfl⟩:∃w10,w10=wr:=⟨wr,rfl⟩
 by_cases hlt:k<l.length
 ·obtain⟨y,hy⟩:∃y,l[k]? =some y:=⟨_,List.getElem?_eq_getElem hlt⟩;obtain⟨b,off,rfl,d0,d1,d2,d3,d4⟩:=Va (L0.below HB10.out (nlr _)) hy;have hlt':(k:Int)<(l.length:Int):=by omega
  have X10:=Za (X0.below HB10.out (nlr _));have HY:=Za hy
  have HDR:Hid (l.drop k=y::l.drop (k+1)):=by
   obtain⟨h1,h2⟩:=List.getElem?_eq_some_iff.1 hy;unfold Hid;rw[List.drop_eq_getElem_cons h1,h2]
  have HTK:Hid (l.take (k+1)=l.take k++[y]):=by
   obtain⟨h1,h2⟩:=List.getElem?_eq_some_iff.1 hy;unfold Hid;rw[List.take_succ_eq_append_getElem h1,h2]
  clear hy L0 X0
  cases t
  ·obtain⟨hlo,hn⟩:=HF.out rfl;have HLO:=Za hlo;have HN:=Za hn;have HPL1:Hid (lo.length≤k):=by rw[hlo];simp only[Hid,List.length_take];omega
   clear hn hlo HF HT;obtain⟨q,HQ⟩:∃q,Hid (Xc x y=q):=⟨_,rfl⟩;have hnot:(!false)=true:=rfl;have HNE:=Za (fun g hg=>(World.ownsRow.lt O10.out g hg).2);have HB11:=Za (Zb HB10.out (bpl w10 (.cells #[.bool y.set,.int .i64 y.key,.int .i64 y.item,.int .i64 y.author,.int .i64 y.seq] 106)));have X11:=Za (X10.below (bpl w10 (.cells #[.bool y.set,.int .i64 y.key,.int .i64 y.item,.int .i64 y.author,.int .i64 y.seq] 106)) (nlr _));have O11:=Za (O10.below (bpl w10 (.cells #[.bool y.set,.int .i64 y.key,.int .i64 y.item,.int .i64 y.author,.int .i64 y.seq] 106)) (nlr _));have V11:=Za (Box.new w10 [.bool y.set,.int .i64 y.key,.int .i64 y.item,.int .i64 y.author,.int .i64 y.seq] 106);clear HB10 X10 O10;obtain⟨cX0,cX1,cX2,cX3,cX4⟩:=X11.c5;obtain⟨cV0,cV1,cV2,cV3,cV4⟩:=V11.c5
   go_wp2_with fail
   refine(ahead_ref x y _).mono ?_;rintro e w12 ⟨rfl,hb⟩;have HB12:=Za (Zb HB11.out hb);have X12:=Za (X11.below hb (nlr _));have O12:=Za (O11.below hb (nlr _));have V12:=Za (V11.below hb (nlr _));clear HB11 hb X11 O11 V11;rw[HQ.out];clear cX0 cX1 cX2 cX3 cX4;clear cV0 cV1 cV2 cV3 cV4;obtain⟨cX0,cX1,cX2,cX3,cX4⟩:=X12.c5;obtain⟨cV0,cV1,cV2,cV3,cV4⟩:=V12.c5
   cases q
   ·have HPL12:=HPL0
    go_wp2_with (at_builtin;refine wpList_append_own _ rfl (.tmp 26) (.tmp 28) 24 rfl W0.heap.size 106 i0 (.agg #[.bool false,.int .i64 0,.int .i64 0,.int .i64 0,.int .i64 0]) 5 40 Tryz.underlying24 hi hz0 hz1 hz2 rfl (by decide) _ _ _ rfl (O12.alloc _) ⟨w12.heap.size,0,none⟩ 1 1 (Zv y) rfl rfl ?c1 ?c2 ?c3 ?c4 ?c5 ?_)
    case c1=>intro j q hj;match j,hj with|0,hj=>(simp[Zv]at hj;subst hj;simp[Addr.add])|1,hj=>(simp[Zv]at hj;subst hj;simp[Addr.add])|2,hj=>(simp[Zv]at hj;subst hj;simp[Addr.add])|3,hj=>(simp[Zv]at hj;subst hj;simp[Addr.add])|4,hj=>(simp[Zv]at hj;subst hj;simp[Addr.add])|(j+5),hj=>simp[Zv]at hj
    case c2=>exact Vo y
    case c3=>unfold maxLen;have:=HPL12.out;omega
    case c4=>have:=HPL12.out;omega
    case c5=>have:=HB12.size;simp at*;omega
    intro v' w13 hown' hgrow _;have HB13:=Za (((Below.plus HB12.out _).grown hgrow (by have:=HB12.size;simp at*;omega) (fun g hg=>(World.ownsRow.lt O12.out g hg).1)));have O13:=Za (Xm.more hown');clear hown' hgrow
    go_wp2_with fail
    go_roundw
    case rel=>exact⟨k+1,false,lo++[y],by omega,by go_num,rfl,by have:=HPL0.out;simp only[Hid,List.length_append,List.length_cons,List.length_nil];omega,Za (fun _=>⟨by rw[HLO.out];exact HTK.symm,fun z hz=>by rw[HTK.out]at hz;rcases List.mem_append.1 hz with h|h;exact HN.out z h;(rw[List.mem_singleton]at h;subst h;exact HQ.out)⟩),Za (fun h=>by cases h),O13,HB13⟩
    case measure=>simp[intOf];omega
   have HPL12:=HPL0
   go_wp2_with (at_builtin;refine wpList_append_own _ rfl (.tmp 22) (.tmp 24) 24 rfl W0.heap.size 106 i0 (.agg #[.bool false,.int .i64 0,.int .i64 0,.int .i64 0,.int .i64 0]) 5 40 Tryz.underlying24 hi hz0 hz1 hz2 rfl (by decide) _ _ _ rfl (O12.alloc _) ⟨w12.heap.size,0,none⟩ 1 1 (Zv x) rfl rfl ?c1 ?c2 ?c3 ?c4 ?c5 ?_)
   case c1=>intro j q hj;match j,hj with|0,hj=>(simp[Zv]at hj;subst hj;simp[Addr.add])|1,hj=>(simp[Zv]at hj;subst hj;simp[Addr.add])|2,hj=>(simp[Zv]at hj;subst hj;simp[Addr.add])|3,hj=>(simp[Zv]at hj;subst hj;simp[Addr.add])|4,hj=>(simp[Zv]at hj;subst hj;simp[Addr.add])|(j+5),hj=>simp[Zv]at hj
   case c2=>exact Vo x
   case c3=>unfold maxLen;have:=HPL12.out;omega
   case c4=>have:=HPL12.out;omega
   case c5=>have:=HB12.size;simp at*;omega
   intro v' w13 hown' hgrow _;have HB13:=Za (((Below.plus HB12.out _).grown hgrow (by have:=HB12.size;simp at*;omega) (fun g hg=>(World.ownsRow.lt O12.out g hg).1)));have O13:=Za (Xm.more hown');have HIN:Hid (Js x l=l.take k++x::l.drop k):=insL_spot HY.out HN.out HQ.out;have V13:=Za (Box.grownN (V12.plus (.cells #[.bool x.set,.int .i64 x.key,.int .i64 x.item,.int .i64 x.author,.int .i64 x.seq] 106)) hgrow (fun h=>Nat.lt_irrefl _ (HNE.out _ h.symm)));clear hown' hgrow cX0 cX1 cX2 cX3 cX4 cV0 cV1 cV2 cV3 cV4;have HPL13:Hid ((lo++[x]).length≤k+1):=by have:=HPL1.out;simp only[Hid,List.length_append,List.length_cons,List.length_nil];omega
   obtain⟨lo2,HLO2⟩:∃lo2,Hid (lo++[x]=lo2):=⟨_,rfl⟩;rw[HLO2.out]at O13 HPL13;obtain⟨cV0,cV1,cV2,cV3,cV4⟩:=V13.c5
   go_wp2_with (at_builtin;refine wpList_append_own _ rfl (.tmp 26) (.tmp 28) 24 rfl W0.heap.size 106 i0 (.agg #[.bool false,.int .i64 0,.int .i64 0,.int .i64 0,.int .i64 0]) 5 40 Tryz.underlying24 hi hz0 hz1 hz2 rfl (by decide) _ _ _ rfl (O13.alloc _) ⟨w13.heap.size,0,none⟩ 1 1 (Zv y) rfl rfl ?c1 ?c2 ?c3 ?c4 ?c5 ?_)
   case c1=>intro j q hj;match j,hj with|0,hj=>(simp[Zv]at hj;subst hj;simp[Addr.add])|1,hj=>(simp[Zv]at hj;subst hj;simp[Addr.add])|2,hj=>(simp[Zv]at hj;subst hj;simp[Addr.add])|3,hj=>(simp[Zv]at hj;subst hj;simp[Addr.add])|4,hj=>(simp[Zv]at hj;subst hj;simp[Addr.add])|(j+5),hj=>simp[Zv]at hj
   case c2=>exact Vo y
   case c3=>unfold maxLen;have:=HPL13.out;omega
   case c4=>have:=HPL13.out;omega
   case c5=>have:=HB13.size;simp at*;omega
   intro v' w14 hown' hgrow _;have HB14:=Za (((Below.plus HB13.out _).grown hgrow (by have:=HB13.size;simp at*;omega) (fun g hg=>(World.ownsRow.lt O13.out g hg).1)));have O14:=Za (Xm.more hown');clear hown' hgrow
   go_wp2_with fail
   go_roundw
   case rel=>exact⟨k+1,true,lo2++[y],by omega,by go_num,rfl,by have:=HPL13.out;simp only[Hid,List.length_append,List.length_cons,List.length_nil];omega,Za (fun h=>by cases h),Za (fun _=>by rw[HIN.out,←HLO2.out,HLO.out,HDR.out];simp),O14,HB14⟩
   case measure=>simp[intOf];omega
  have hnot:(!true)=false:=rfl;have HPL11:=HPL0;have HB11:=Za (Zb HB10.out (bpl w10 (.cells #[.bool y.set,.int .i64 y.key,.int .i64 y.item,.int .i64 y.author,.int .i64 y.seq] 106)));have X11:=Za (X10.below (bpl w10 (.cells #[.bool y.set,.int .i64 y.key,.int .i64 y.item,.int .i64 y.author,.int .i64 y.seq] 106)) (nlr _));have O11:=Za (O10.below (bpl w10 (.cells #[.bool y.set,.int .i64 y.key,.int .i64 y.item,.int .i64 y.author,.int .i64 y.seq] 106)) (nlr _));have V11:=Za (Box.new w10 [.bool y.set,.int .i64 y.key,.int .i64 y.item,.int .i64 y.author,.int .i64 y.seq] 106);clear HB10 X10 O10;obtain⟨cV0,cV1,cV2,cV3,cV4⟩:=V11.c5
  go_wp2_with (at_builtin;refine wpList_append_own _ rfl (.tmp 26) (.tmp 28) 24 rfl W0.heap.size 106 i0 (.agg #[.bool false,.int .i64 0,.int .i64 0,.int .i64 0,.int .i64 0]) 5 40 Tryz.underlying24 hi hz0 hz1 hz2 rfl (by decide) _ _ _ rfl (O11.alloc _) ⟨w10.heap.size+1,0,none⟩ 1 1 (Zv y) rfl rfl ?c1 ?c2 ?c3 ?c4 ?c5 ?_)
  case c1=>intro j q hj;match j,hj with|0,hj=>(simp[Zv]at hj;subst hj;simp)|1,hj=>(simp[Zv]at hj;subst hj;simp)|2,hj=>(simp[Zv]at hj;subst hj;simp)|3,hj=>(simp[Zv]at hj;subst hj;simp)|4,hj=>(simp[Zv]at hj;subst hj;simp)|(j+5),hj=>simp[Zv]at hj
  case c2=>exact Vo y
  case c3=>unfold maxLen;have:=HPL11.out;omega
  case c4=>have:=HPL11.out;omega
  case c5=>have:=HB11.size;simp at*;omega
  intro v' w13 hown' hgrow _;have HB13:=Za (((Below.plus HB11.out _).grown hgrow (by have:=HB11.size;simp at*;omega) (fun g hg=>(World.ownsRow.lt O11.out g hg).1)));have O13:=Za (Xm.more hown');clear hown' hgrow
  go_wp2_with fail
  go_roundw
  case rel=>exact⟨k+1,true,lo++[y],by omega,by go_num,rfl,by have:=HPL0.out;simp only[Hid,List.length_append,List.length_cons,List.length_nil];omega,Za (fun h=>by cases h),Za (fun _=>by rw[←HT.out (by simp),HDR.out];simp),O13,HB13⟩
  case measure=>simp[intOf];omega
 have hkl:l.take k=l:=List.take_of_length_le (by omega);have hdr:l.drop k=[]:=List.drop_eq_nil_of_le (by omega);have hlt':¬(k:Int)<(l.length:Int):=by omega
 cases t
 ·obtain⟨hlo,hn⟩:=HF.out rfl
  have HIN:Hid (Js x l=lo++[x]):=by
   rw[hlo,hkl];rw[hkl]at hn;exact insL_last hn
  have X10:=Za (X0.below HB10.out (nlr _));have HPL10:=HPL0;have hnot:(!false)=true:=rfl;obtain⟨x0,x1,x2,x3,x4⟩:=X10.c5;clear hn hlo HF HT hkl hdr X0 L0
  go_wp2_with (at_builtin;refine wpList_append_own _ rfl (.tmp 33) (.tmp 35) 24 rfl W0.heap.size 106 i0 (.agg #[.bool false,.int .i64 0,.int .i64 0,.int .i64 0,.int .i64 0]) 5 40 Tryz.underlying24 hi hz0 hz1 hz2 rfl (by decide) _ _ _ rfl (O10.alloc _) ⟨w10.heap.size,0,none⟩ 1 1 (Zv x) rfl rfl ?c1 ?c2 ?c3 ?c4 ?c5 ?_)
  case c1=>intro j q hj;match j,hj with|0,hj=>(simp[Zv]at hj;subst hj;simp)|1,hj=>(simp[Zv]at hj;subst hj;simp)|2,hj=>(simp[Zv]at hj;subst hj;simp)|3,hj=>(simp[Zv]at hj;subst hj;simp)|4,hj=>(simp[Zv]at hj;subst hj;simp)|(j+5),hj=>simp[Zv]at hj
  case c2=>exact Vo x
  case c3=>unfold maxLen;have:=HPL10.out;omega
  case c4=>have:=HPL10.out;omega
  case c5=>have:=HB10.size;simp at*;omega
  intro v' w11 hown' hgrow _;have HB11:=Za (((Below.plus HB10.out _).grown hgrow (by have:=HB10.size;simp at*;omega) (fun g hg=>(World.ownsRow.lt O10.out g hg).1)));have O11:=Za (Xm.more hown');clear hown' hgrow
  go_wp2_with fail
  go_ret
  exact⟨_,rfl,by rw[HIN.out];exact Zw O11.out HLE.out,HB0.trans (HB11.mono HB0.size)⟩
 have HIN:Hid (lo=Js x l):=by have:=HT.out (by simp);rw[hdr,List.append_nil]at this;exact this
 have hnot:(!true)=false:=rfl;clear HF HT hkl hdr
 go_wp2_with fail
 go_ret
 exact⟨_,rfl,by rw[←HIN.out];exact Zw O10.out HLE.out,HB0.trans (HB10.mono HB0.size)⟩
end Go.Proofs.YtfhecilhcofboaaGreat
