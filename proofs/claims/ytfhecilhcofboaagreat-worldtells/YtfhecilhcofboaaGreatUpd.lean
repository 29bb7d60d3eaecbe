/- An update as a Lean record, the value that reads as one, and what is wrong with one: update.Wrong and the document's own answer agree with it. -/
import Derived.Test.YtfhecilhcofboaaGreatReads
namespace Go.Proofs.YtfhecilhcofboaaGreat
open Go.RowKit

structure Upd where
 author:Int
 seen:List Int
 kind:Int
 key:Int
 item:Int

def sameU(a b:Upd):Bool:=a.author==b.author&&(a.kind==b.kind&&(a.key==b.key&&(a.item==b.item&&decide (a.seen=b.seen))))
theorem sameU_self(a:Upd):sameU a a=true:=by simp[sameU]
def Jf(w:World)(v:Value)(u:Upd):Prop:=
 ∃sv,v=.agg #[.int .i64 u.author,sv,.int .i64 u.kind,.int .i64 u.key,.int .i64 u.item]∧Row w sv u.seen

theorem Jf.below{w w':World}{v:Value}{u:Upd}(h:Jf w v u){B:Nat}(hb:Below B w w')(hB:w.heap.size≤B):Jf w' v u:=by
 obtain⟨sv,h1,h2⟩:=h;exact⟨sv,h1,h2.below hb hB⟩

def lateU(u:Upd)(n:Int):Bool:=decide (u.author<0∨n≤u.author∨u.seen.getD u.author.toNat 0=1000)
def farU(u:Upd):Bool:=decide (u.key<0∨15<u.key∨u.item< -1000∨1000<u.item)
def Zz(u:Upd)(n:Int):Int:=
 if Zn u.seen n≠0 then Zn u.seen n
 else if lateU u n then 3
 else if u.kind<1∨5<u.kind then 1
 else if farU u then 3
 else if u.kind=2∧u.item≠0 then 2
 else 0

theorem isKind_yes(k:Int)(w:World)(h0:1≤k)(h1:k≤5):
  Calls Tryz.prog 118 #[.int .i64 k] w fun e w'=>e=.returned (.bool true)∧w'=w:=by
 rcases(show k=1∨k=2∨k=3∨k=4∨k=5 by omega)with rfl|rfl|rfl|rfl|rfl
 all_goals
  clear h0 h1
  go_enter Tryz.func118,Tryz.ntmps118
  go_wp2
  go_ret
  exact⟨rfl,rfl⟩
theorem isKind_no(k:Int)(w:World)(h:k<1∨5<k):
  Calls Tryz.prog 118 #[.int .i64 k] w fun e w'=>e=.returned (.bool false)∧w'=w:=by
 have h1:¬k=1:=by omega
 have h2:¬k=2:=by omega
 have h3:¬k=3:=by omega
 have h4:¬k=4:=by omega
 have h5:¬k=5:=by omega
 clear h
 go_enter Tryz.func118,Tryz.ntmps118
 go_wp2
 go_ret
 exact⟨rfl,rfl⟩

theorem Yq{seen:List Int}{n:Int}(h:Zn seen n=0):1≤n∧n≤6∧(seen.length:Int)=n∧∀k,k<seen.length→0≤seen.getD k 0∧seen.getD k 0≤1000:=by
 unfold Zn at h
 split at h
 ·cases h
 rename_i hb
 split at h
 ·rename_i ha
  refine⟨by omega,by omega,by omega,fun k hk=>?_⟩;rw[List.all_eq_true]at ha;have:=ha (seen.getD k 0) (by rw[Ui hk];exact List.getElem_mem hk)
  simpa[xC]using this
 cases h

theorem zY(u:Upd)(n:Int):
  (Zn u.seen n≠0∧Zz u n=Zn u.seen n)∨
  (Zn u.seen n=0∧((u.author<0∧Zz u n=3)∨(0≤u.author∧n≤u.author∧Zz u n=3)∨(0≤u.author∧u.author<n∧
   ((u.seen.getD u.author.toNat 0=1000∧Zz u n=3)∨(u.seen.getD u.author.toNat 0<1000∧
    ((u.kind<1∧Zz u n=1)∨(1≤u.kind∧5<u.kind∧Zz u n=1)∨(1≤u.kind∧u.kind≤5∧
     ((u.key<0∧Zz u n=3)∨(0≤u.key∧15<u.key∧Zz u n=3)∨(0≤u.key∧u.key≤15∧u.item< -1000∧Zz u n=3)∨(0≤u.key∧u.key≤15∧-1000≤u.item∧1000<u.item∧Zz u n=3)∨
      (0≤u.key∧u.key≤15∧-1000≤u.item∧u.item≤1000∧
       ((u.kind=2∧u.item≠0∧Zz u n=2)∨(u.kind=2∧u.item=0∧Zz u n=0)∨(u.kind≠2∧Zz u n=0))))))))))):=by
 by_cases hw:Zn u.seen n=0
 ·refine .inr ⟨hw,?_⟩;obtain⟨h1,h2,h3,h4⟩:=Yq hw
  by_cases ha:u.author<0
  ·exact .inl ⟨ha,by simp[Zz,hw,lateU,ha]⟩
  by_cases hb:n≤u.author
  ·exact .inr (.inl ⟨by omega,hb,by simp[Zz,hw,lateU,hb]⟩)
  refine .inr (.inr ⟨by omega,by omega,?_⟩);have h5:=h4 u.author.toNat (by omega)
  by_cases hc:u.seen.getD u.author.toNat 0=1000
  ·exact .inl ⟨hc,by simp only[Zz,hw,lateU,hc];simp⟩
  have hl:lateU u n=false:=by simp only[lateU,decide_eq_false_iff_not];omega
  refine .inr ⟨by omega,?_⟩
  by_cases hk:u.kind<1
  ·exact .inl ⟨hk,by simp[Zz,hw,hl,hk]⟩
  by_cases hk5:5<u.kind
  ·exact .inr (.inl ⟨by omega,hk5,by simp[Zz,hw,hl,hk5]⟩)
  refine .inr (.inr ⟨by omega,by omega,?_⟩);have hkk:¬(u.kind<1∨5<u.kind):=by omega
  by_cases k1:u.key<0
  ·exact .inl ⟨k1,by simp[Zz,hw,hl,hkk,farU,k1]⟩
  by_cases k2:15<u.key
  ·exact .inr (.inl ⟨by omega,k2,by simp[Zz,hw,hl,hkk,farU,k2]⟩)
  by_cases k3:u.item< -1000
  ·exact .inr (.inr (.inl ⟨by omega,by omega,k3,by simp[Zz,hw,hl,hkk,farU,k3]⟩))
  by_cases k4:1000<u.item
  ·exact .inr (.inr (.inr (.inl ⟨by omega,by omega,by omega,k4,by simp[Zz,hw,hl,hkk,farU,k4]⟩)))
  have hf:farU u=false:=by simp only[farU,decide_eq_false_iff_not];omega
  refine .inr (.inr (.inr (.inr ⟨by omega,by omega,by omega,by omega,?_⟩)))
  by_cases m1:u.kind=2
  ·by_cases m2:u.item=0
   ·exact .inr (.inl ⟨m1,m2,by simp[Zz,hw,hl,hf,m1,m2]⟩)
   exact .inl ⟨m1,m2,by simp[Zz,hw,hl,hf,m1,m2]⟩
  exact .inr (.inr ⟨m1,by simp[Zz,hw,hl,hf,hkk,m1]⟩)
 exact .inl ⟨hw,by simp[Zz,hw]⟩

set_option maxRecDepth 100000 in
set_option maxHeartbeats 1000000 in
theorem xE(v:Value)(u:Upd)(n:Int)(w:World)(h:Jf w v u):
  Calls Tryz.prog 92 #[v,.int .i64 n] w fun e w'=>e=.returned (.int .i64 (Zz u n))∧Below w.heap.size w w':=by
 obtain⟨sv,rfl,hs⟩:=h;have ways:=zY u n
 generalize HU:Zz u n=r at ways
 clear HU;obtain⟨author,seen,kind,key,item⟩:=u
 simp only at hs ways ⊢
 have HR:=Za (hs.alloc (.cells #[.int .i64 author,sv,.int .i64 kind,.int .i64 key,.int .i64 item] 33));have HBox:=Za (Box.new w [.int .i64 author,sv,.int .i64 kind,.int .i64 key,.int .i64 item] 33);have HB:=Za (bpl w (.cells #[.int .i64 author,sv,.int .i64 kind,.int .i64 key,.int .i64 item] 33));clear hs
 rcases ways with⟨hw,rfl⟩|⟨hw,ways⟩
 ·have hne:(Zn seen n != 0)=true:=by simp[hw]
  clear hw
  go_enter Tryz.func92,Tryz.ntmps92
  go_wp2_with fail
  refine(Yk _ seen n _ HR.out).mono ?_;rintro e w1 ⟨rfl,hw1⟩;rw[←hw1]at HB;clear hw1 HR HBox
  go_wp2
  go_ret
  exact⟨rfl,HB.out⟩
 obtain⟨-,-,hl,-⟩:=Yq hw;have HW:=Za hw;clear hw
 rcases ways with⟨ha,rfl⟩|⟨ha0,ha,rfl⟩|⟨ha0,ha,ways⟩
 ·go_enter Tryz.func92,Tryz.ntmps92
  go_wp2_with fail
  refine(Yk _ seen n _ HR.out).mono ?_;rintro e w1 ⟨rfl,hw1⟩;rw[HW.out];rw[←hw1]at HB HR HBox;clear hw1 HW;obtain⟨c0,c1,c2,c3,c4⟩:=HBox.c5;clear HBox
  go_wp2_with fail
  refine(Vv _ seen author _ HR.out (by omega)).mono ?_;rintro e w2 ⟨rfl,hw2⟩;rw[hw2];clear hw2 w2
  go_wp2
  go_ret
  exact⟨rfl,HB.out⟩
 ·go_enter Tryz.func92,Tryz.ntmps92
  go_wp2_with fail
  refine(Yk _ seen n _ HR.out).mono ?_;rintro e w1 ⟨rfl,hw1⟩;rw[HW.out];rw[←hw1]at HB HR HBox;clear hw1 HW;obtain⟨c0,c1,c2,c3,c4⟩:=HBox.c5;clear HBox
  go_wp2_with fail
  refine(Vv _ seen author _ HR.out (by omega)).mono ?_;rintro e w2 ⟨rfl,hw2⟩;rw[hw2];clear hw2 w2
  go_wp2
  go_ret
  exact⟨rfl,HB.out⟩
 obtain⟨k,rfl⟩:∃k:Nat,author=k:=⟨author.toNat,by omega⟩;rw[Int.toNat_natCast]at ways;have hlt:k<seen.length:=by omega
 obtain⟨y,HY⟩:∃y,Hid (seen.getD k 0=y):=⟨_,rfl⟩;rw[HY.out]at ways
 rcases ways with⟨hy,rfl⟩|⟨hy,ways⟩
 ·go_enter Tryz.func92,Tryz.ntmps92
  go_wp2_with fail
  refine(Yk _ seen n _ HR.out).mono ?_;rintro e w1 ⟨rfl,hw1⟩;rw[HW.out];rw[←hw1]at HB HR HBox;clear hw1 HW;obtain⟨c0,c1,c2,c3,c4⟩:=HBox.c5;clear HBox;have HR2:=HR;obtain⟨a,cap,hsv,hl',hm',hc⟩:=HR2.out;clear HR2 hl' hm';obtain⟨b,off,rfl,hcell⟩:=hc k hlt;subst hsv;rw[HY.out]at hcell;clear hc
  go_wp2_with fail
  refine(Ye _ seen k _ HR.out (by omega) (by omega)).mono ?_;rintro e w2 ⟨rfl,hw2⟩;rw[hw2];clear hw2 w2 HR HY
  go_wp2
  go_ret
  exact⟨rfl,HB.out⟩
 have hy1:¬y=1000:=by omega
 rcases ways with⟨hk,rfl⟩|⟨hk1,hk,rfl⟩|⟨hk1,hk5,ways⟩
 ·go_enter Tryz.func92,Tryz.ntmps92
  go_wp2_with fail
  refine(Yk _ seen n _ HR.out).mono ?_;rintro e w1 ⟨rfl,hw1⟩;rw[HW.out];rw[←hw1]at HB HR HBox;clear hw1 HW;obtain⟨c0,c1,c2,c3,c4⟩:=HBox.c5;clear HBox;have HR2:=HR;obtain⟨a,cap,hsv,hl',hm',hc⟩:=HR2.out;clear HR2 hl' hm';obtain⟨b,off,rfl,hcell⟩:=hc k hlt;subst hsv;rw[HY.out]at hcell;clear hc
  go_wp2_with fail
  refine(Ye _ seen k _ HR.out (by omega) (by omega)).mono ?_;rintro e w2 ⟨rfl,hw2⟩;rw[hw2];clear hw2 w2 HR HY
  go_wp2_with fail
  refine(isKind_no kind _ (by omega)).mono ?_;rintro e w2 ⟨rfl,hw2⟩;rw[hw2];clear hw2 w2
  go_wp2
  go_ret
  exact⟨rfl,HB.out⟩
 ·go_enter Tryz.func92,Tryz.ntmps92
  go_wp2_with fail
  refine(Yk _ seen n _ HR.out).mono ?_;rintro e w1 ⟨rfl,hw1⟩;rw[HW.out];rw[←hw1]at HB HR HBox;clear hw1 HW;obtain⟨c0,c1,c2,c3,c4⟩:=HBox.c5;clear HBox;have HR2:=HR;obtain⟨a,cap,hsv,hl',hm',hc⟩:=HR2.out;clear HR2 hl' hm';obtain⟨b,off,rfl,hcell⟩:=hc k hlt;subst hsv;rw[HY.out]at hcell;clear hc
  go_wp2_with fail
  refine(Ye _ seen k _ HR.out (by omega) (by omega)).mono ?_;rintro e w2 ⟨rfl,hw2⟩;rw[hw2];clear hw2 w2 HR HY
  go_wp2_with fail
  refine(isKind_no kind _ (by omega)).mono ?_;rintro e w2 ⟨rfl,hw2⟩;rw[hw2];clear hw2 w2
  go_wp2
  go_ret
  exact⟨rfl,HB.out⟩
 rcases ways with⟨h3,rfl⟩|⟨h2,h3,rfl⟩|⟨h1,h2,h3,rfl⟩|⟨h0,h1,h2,h3,rfl⟩|⟨h0,h1,h2,h3,⟨rfl,h5,rfl⟩|⟨rfl,rfl,rfl⟩|⟨h4,rfl⟩⟩
 all_goals
  go_enter Tryz.func92,Tryz.ntmps92
  go_wp2_with fail
  refine(Yk _ seen n _ HR.out).mono ?_;rintro e w1 ⟨rfl,hw1⟩;rw[HW.out];rw[←hw1]at HB HR HBox;clear hw1 HW;obtain⟨c0,c1,c2,c3,c4⟩:=HBox.c5;clear HBox;have HR2:=HR;obtain⟨a,cap,hsv,hl',hm',hc⟩:=HR2.out;clear HR2 hl' hm';obtain⟨b,off,rfl,hcell⟩:=hc k hlt;subst hsv;rw[HY.out]at hcell;clear hc
  go_wp2_with fail
  refine(Ye _ seen k _ HR.out (by omega) (by omega)).mono ?_;rintro e w2 ⟨rfl,hw2⟩;rw[hw2];clear hw2 w2 HR HY
  go_wp2_with fail
  refine(isKind_yes _ _ (by omega) (by omega)).mono ?_;rintro e w2 ⟨rfl,hw2⟩;rw[hw2];clear hw2 w2
  go_wp2
  go_ret
  exact⟨rfl,HB.out⟩
end Go.Proofs.YtfhecilhcofboaaGreat
