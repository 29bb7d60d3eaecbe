/- What is wrong with one live, with one tally: state.liveWrong, state.tallyWrong, and the closures of state.Wrong. -/
import Derived.Test.YtfhecilhcofboaaGreatStA
namespace Go.Proofs.YtfhecilhcofboaaGreat
open Go.RowKit

def Oa(k:Int):Bool:=decide (0≤k∧k≤15)
def Xo(x f:Int):Bool:=decide (-f≤x∧x≤f)
theorem zP(k:Int)(w:World):Calls Tryz.prog 104 #[.int .i64 k] w fun e w'=>e=.returned (.bool (Oa k))∧w'=w:=by
 rcases(show k<0∨(0≤k∧15<k)∨(0≤k∧k≤15) by omega)with h|⟨h,h2⟩|⟨h,h2⟩
 ·have e:Oa k=false:=by simp[Oa];omega
  have h1:¬0≤k:=by omega
  rw[e]
  go_enter Tryz.func104,Tryz.ntmps104
  go_wp2
  go_ret
  exact⟨rfl,rfl⟩
 ·have e:Oa k=false:=by simp[Oa];omega
  have h1:¬k≤15:=by omega
  rw[e]
  go_enter Tryz.func104,Tryz.ntmps104
  go_wp2
  go_ret
  exact⟨by simp,rfl⟩
 have e:Oa k=true:=by simp[Oa];omega
 rw[e]
 go_enter Tryz.func104,Tryz.ntmps104
 go_wp2
 go_ret
 exact⟨by simp,rfl⟩
theorem within_fn(x f:Int)(w:World)(h0:0≤f)(h1:f≤1000000000):Calls Tryz.prog 105 #[.int .i64 x,.int .i64 f] w fun e w'=>e=.returned (.bool (Xo x f))∧w'=w:=by
 have hw:IntKind.i64.wrap (-f)=-f:=wrapS (by omega) (by omega)
 rcases(show x< -f∨(-f≤x∧f<x)∨(-f≤x∧x≤f) by omega)with h|⟨h,h2⟩|⟨h,h2⟩
 ·have e:Xo x f=false:=by simp[Xo];omega
  have h3:¬-f≤x:=by omega
  rw[e]
  go_enter Tryz.func105,Tryz.ntmps105
  go_wp2
  go_ret
  exact⟨rfl,rfl⟩
 ·have e:Xo x f=false:=by simp[Xo];omega
  have h3:¬x≤f:=by omega
  rw[e]
  go_enter Tryz.func105,Tryz.ntmps105
  go_wp2
  go_ret
  exact⟨by simp,rfl⟩
 have e:Xo x f=true:=by simp[Xo];omega
 rw[e]
 go_enter Tryz.func105,Tryz.ntmps105
 go_wp2
 go_ret
 exact⟨by simp,rfl⟩

def Zo(c:List Int)(x:Zk):Int:=
 if x.author<0∨(c.length:Int)≤x.author∨x.seq<1∨Oa x.key=false∨Xo x.item 1000=false then 3 else if Vy c x.author x.seq then 0 else 8
theorem wrongLv_ways(c:List Int)(x:Zk):
  ((x.author<0∨(c.length:Int)≤x.author)∧Zo c x=3)∨(0≤x.author∧x.author<(c.length:Int)∧
   ((x.seq<1∧Zo c x=3)∨(1≤x.seq∧((Oa x.key=false∧Zo c x=3)∨(Oa x.key=true∧((Xo x.item 1000=false∧Zo c x=3)∨(Xo x.item 1000=true∧
    ((Vy c x.author x.seq=true∧Zo c x=0)∨(Vy c x.author x.seq=false∧Zo c x=8))))))))):=by
 unfold Zo
 by_cases h1:x.author<0∨(c.length:Int)≤x.author
 ·exact .inl ⟨h1,by rw[if_pos (by omega)]⟩
 refine .inr ⟨by omega,by omega,?_⟩
 by_cases h2:x.seq<1
 ·exact .inl ⟨h2,by rw[if_pos (.inr (.inr (.inl h2)))]⟩
 refine .inr ⟨by omega,?_⟩
 cases h3:Oa x.key
 ·exact .inl ⟨rfl,by simp⟩
 refine .inr ⟨rfl,?_⟩
 cases h4:Xo x.item 1000
 ·exact .inl ⟨rfl,by simp⟩
 refine .inr ⟨rfl,?_⟩;have h5:¬(x.author<0∨(c.length:Int)≤x.author∨x.seq<1∨true=false∨true=false):=by simp;omega
 cases h6:Vy c x.author x.seq
 ·exact .inr ⟨rfl,by rw[if_neg h5];simp⟩
 exact .inl ⟨rfl,by rw[if_neg h5];simp⟩

set_option maxRecDepth 100000 in
set_option maxHeartbeats 1000000 in
theorem liveWrong_fn(x:Zk)(cv:Value)(c:List Int)(w:World)(hc:Row w cv c):
  Calls Tryz.prog 64 #[.agg #[.bool x.set,.int .i64 x.key,.int .i64 x.item,.int .i64 x.author,.int .i64 x.seq],cv] w fun e w'=>e=.returned (.int .i64 (Zo c x))∧Below w.heap.size w w':=by
 have ways:=wrongLv_ways c x;obtain⟨r,HR⟩:∃r,Hid (Zo c x=r):=⟨_,rfl⟩;rw[HR.out]at ways;rw[HR.out];clear HR;have C0:=Za (hc.alloc (.cells #[.bool x.set,.int .i64 x.key,.int .i64 x.item,.int .i64 x.author,.int .i64 x.seq] 106));have HB0:=Za (bpl w (.cells #[.bool x.set,.int .i64 x.key,.int .i64 x.item,.int .i64 x.author,.int .i64 x.seq] 106));clear hc
 rcases ways with⟨h1,rfl⟩|⟨h1,h2,ways⟩
 ·go_enter Tryz.func64,Tryz.ntmps64
  go_wp2_with fail
  refine(Vv _ c x.author _ C0.out (by omega)).mono ?_;rintro e w' ⟨rfl,hw'⟩;rw[hw'];clear hw' w'
  go_wp2_with fail
  go_ret
  exact⟨rfl,HB0.out⟩
 rcases ways with⟨h3,rfl⟩|⟨h3,ways⟩
 ·go_enter Tryz.func64,Tryz.ntmps64
  go_wp2_with fail
  refine(Ye _ c x.author _ C0.out (by omega) (by omega)).mono ?_;rintro e w' ⟨rfl,hw'⟩;rw[hw'];clear hw' w'
  go_wp2_with fail
  go_ret
  exact⟨rfl,HB0.out⟩
 have h3':¬x.seq<1:=by omega
 rcases ways with⟨h4,rfl⟩|⟨h4,ways⟩
 ·go_enter Tryz.func64,Tryz.ntmps64
  go_wp2_with fail
  refine(Ye _ c x.author _ C0.out (by omega) (by omega)).mono ?_;rintro e w' ⟨rfl,hw'⟩;rw[hw'];clear hw' w'
  go_wp2_with fail
  refine(zP x.key _).mono ?_;rintro e w' ⟨rfl,hw'⟩;rw[hw'];clear hw' w';rw[h4]
  go_wp2_with fail
  go_ret
  exact⟨rfl,HB0.out⟩
 rcases ways with⟨h5,rfl⟩|⟨h5,ways⟩
 ·go_enter Tryz.func64,Tryz.ntmps64
  go_wp2_with fail
  refine(Ye _ c x.author _ C0.out (by omega) (by omega)).mono ?_;rintro e w' ⟨rfl,hw'⟩;rw[hw'];clear hw' w'
  go_wp2_with fail
  refine(zP x.key _).mono ?_;rintro e w' ⟨rfl,hw'⟩;rw[hw'];clear hw' w';rw[h4]
  go_wp2_with fail
  refine(within_fn x.item 1000 _ (by omega) (by omega)).mono ?_;rintro e w' ⟨rfl,hw'⟩;rw[hw'];clear hw' w';rw[h5]
  go_wp2_with fail
  go_ret
  exact⟨rfl,HB0.out⟩
 rcases ways with⟨h6,rfl⟩|⟨h6,rfl⟩
 ·go_enter Tryz.func64,Tryz.ntmps64
  go_wp2_with fail
  refine(Ye _ c x.author _ C0.out (by omega) (by omega)).mono ?_;rintro e w' ⟨rfl,hw'⟩;rw[hw'];clear hw' w'
  go_wp2_with fail
  refine(zP x.key _).mono ?_;rintro e w' ⟨rfl,hw'⟩;rw[hw'];clear hw' w';rw[h4]
  go_wp2_with fail
  refine(within_fn x.item 1000 _ (by omega) (by omega)).mono ?_;rintro e w' ⟨rfl,hw'⟩;rw[hw'];clear hw' w';rw[h5]
  go_wp2_with fail
  refine(xB _ c x.author x.seq _ C0.out).mono ?_;rintro e w' ⟨rfl,hw'⟩;rw[hw'];clear hw' w';rw[h6]
  go_wp2_with fail
  go_ret
  exact⟨rfl,HB0.out⟩
 go_enter Tryz.func64,Tryz.ntmps64
 go_wp2_with fail
 refine(Ye _ c x.author _ C0.out (by omega) (by omega)).mono ?_;rintro e w' ⟨rfl,hw'⟩;rw[hw'];clear hw' w'
 go_wp2_with fail
 refine(zP x.key _).mono ?_;rintro e w' ⟨rfl,hw'⟩;rw[hw'];clear hw' w';rw[h4]
 go_wp2_with fail
 refine(within_fn x.item 1000 _ (by omega) (by omega)).mono ?_;rintro e w' ⟨rfl,hw'⟩;rw[hw'];clear hw' w';rw[h5]
 go_wp2_with fail
 refine(xB _ c x.author x.seq _ C0.out).mono ?_;rintro e w' ⟨rfl,hw'⟩;rw[hw'];clear hw' w';rw[h6]
 go_wp2_with fail
 go_ret
 exact⟨rfl,HB0.out⟩

def Zq(c:List Int)(t:Tal):Int:=
 if t.author<0∨(c.length:Int)≤t.author∨Oa t.key=false∨t.sum=0∨Xo t.sum (1000*c.getD t.author.toNat 0)=false then 3 else 0
theorem wrongTl_ways(c:List Int)(t:Tal):
  ((t.author<0∨(c.length:Int)≤t.author)∧Zq c t=3)∨(0≤t.author∧t.author<(c.length:Int)∧
   ((Oa t.key=false∧Zq c t=3)∨(Oa t.key=true∧((t.sum=0∧Zq c t=3)∨(t.sum≠0∧((Xo t.sum (1000*c.getD t.author.toNat 0)=false∧Zq c t=3)∨(Xo t.sum (1000*c.getD t.author.toNat 0)=true∧Zq c t=0))))))):=by
 unfold Zq
 by_cases h1:t.author<0∨(c.length:Int)≤t.author
 ·exact .inl ⟨h1,by rw[if_pos (by omega)]⟩
 refine .inr ⟨by omega,by omega,?_⟩
 cases h3:Oa t.key
 ·exact .inl ⟨rfl,by simp⟩
 refine .inr ⟨rfl,?_⟩
 by_cases h2:t.sum=0
 ·exact .inl ⟨h2,by simp[h2]⟩
 refine .inr ⟨h2,?_⟩
 cases h4:Xo t.sum (1000*c.getD t.author.toNat 0)
 ·exact .inl ⟨rfl,by simp⟩
 refine .inr ⟨rfl,?_⟩;have h5:¬(t.author<0∨(c.length:Int)≤t.author∨true=false∨t.sum=0∨true=false):=by simp;omega
 rw[if_neg h5]
end Go.Proofs.YtfhecilhcofboaaGreat
/- state.tallyWrong, and the closures of state.Wrong. -/
namespace Go.Proofs.YtfhecilhcofboaaGreat
open Go.RowKit

set_option maxRecDepth 100000 in
set_option maxHeartbeats 1000000 in
theorem tallyWrong_fn(t:Tal)(cv:Value)(c:List Int)(w:World)(hc:Row w cv c)(hg:∀k,k<c.length→0≤c.getD k 0∧c.getD k 0≤1000):
  Calls Tryz.prog 68 #[.agg #[.int .i64 t.key,.int .i64 t.author,.int .i64 t.sum],cv] w fun e w'=>e=.returned (.int .i64 (Zq c t))∧Below w.heap.size w w':=by
 have ways:=wrongTl_ways c t;obtain⟨r,HR⟩:∃r,Hid (Zq c t=r):=⟨_,rfl⟩;rw[HR.out]at ways;rw[HR.out];clear HR;have C0:=Za (hc.alloc (.cells #[.int .i64 t.key,.int .i64 t.author,.int .i64 t.sum] 108));have X0:=Za (Box.new w [.int .i64 t.key,.int .i64 t.author,.int .i64 t.sum] 108);have HB0:=Za (bpl w (.cells #[.int .i64 t.key,.int .i64 t.author,.int .i64 t.sum] 108));clear hc
 rcases ways with⟨h1,rfl⟩|⟨h1,h2,ways⟩
 ·go_enter Tryz.func68,Tryz.ntmps68
  go_wp2_with fail
  refine(Vv _ c t.author _ C0.out (by omega)).mono ?_;rintro e w' ⟨rfl,hw'⟩;rw[hw'];clear hw' w'
  go_wp2_with fail
  go_ret
  exact⟨rfl,HB0.out⟩
 rcases ways with⟨h4,rfl⟩|⟨h4,ways⟩
 ·go_enter Tryz.func68,Tryz.ntmps68
  go_wp2_with fail
  refine(Ye _ c t.author _ C0.out (by omega) (by omega)).mono ?_;rintro e w' ⟨rfl,hw'⟩;rw[hw'];clear hw' w'
  go_wp2_with fail
  refine(zP t.key _).mono ?_;rintro e w' ⟨rfl,hw'⟩;rw[hw'];clear hw' w';rw[h4]
  go_wp2_with fail
  go_ret
  exact⟨rfl,HB0.out⟩
 obtain⟨k,hk⟩:∃k:Nat,t.author=k:=⟨t.author.toNat,by omega⟩;have hkl:k<c.length:=by omega
 obtain⟨h7,h8⟩:=hg k hkl;rw[hk,Int.toNat_natCast]at ways;obtain⟨y,HY⟩:∃y,Hid (c.getD k 0=y):=⟨_,rfl⟩;rw[HY.out]at ways h7 h8;have hw:IntKind.i64.wrap (1000*y)=1000*y:=wrapS (by omega) (by omega);obtain⟨c0,c1,c2⟩:=X0.c3;have hka:t.author<(c.length:Int):=h2;have CC:=C0;obtain⟨a,cap,hcv,-,-,hcells⟩:=CC.out;obtain⟨b,off,rfl,hcell⟩:=hcells k hkl;subst hcv;rw[HY.out]at hcell;clear hcells CC hg;obtain⟨t1,t2,t3⟩:=t
 simp only at*
 subst hk
 rcases ways with⟨rfl,rfl⟩|⟨h5,ways⟩
 ·go_enter Tryz.func68,Tryz.ntmps68
  go_wp2_with fail
  refine(Ye _ c k _ C0.out (by omega) (by omega)).mono ?_;rintro e w' ⟨rfl,hw'⟩;rw[hw'];clear hw' w'
  go_wp2_with fail
  refine(zP t1 _).mono ?_;rintro e w' ⟨rfl,hw'⟩;rw[hw'];clear hw' w';rw[h4]
  go_wp2_with fail
  go_quiet (fail)
  go_wp2_with fail
  go_ret
  exact⟨rfl,Yp HB0.out _⟩
 have h5':(t3==0)=false:=by simp[h5]
 have h5'':decide (t3=0)=false:=by simp[h5]
 rcases ways with⟨h6,rfl⟩|⟨h6,rfl⟩
 all_goals
  go_enter Tryz.func68,Tryz.ntmps68
  go_wp2_with fail
  refine(Ye _ c k _ C0.out (by omega) (by omega)).mono ?_;rintro e w' ⟨rfl,hw'⟩;rw[hw'];clear hw' w'
  go_wp2_with fail
  refine(zP t1 _).mono ?_;rintro e w' ⟨rfl,hw'⟩;rw[hw'];clear hw' w';rw[h4]
  go_wp2_with fail
  go_region_held3 (fun w'=>w'.cell? ⟨w.heap.size,1,none⟩=some (.int .i64 (k:Int))∧w'.cell? ⟨w.heap.size,2,none⟩=some (.int .i64 t3)∧w'.cell? ⟨b,off+k,none⟩=some (.int .i64 y)) (go_keep) (first|(go_at_call 105;refine(within_fn _ _ _ (by omega) (by omega)).mono ?_;rintro e w' ⟨rfl,rfl⟩))
  go_wp2_with fail
  go_ret
  exact⟨rfl,HB0.drew⟩

set_option maxRecDepth 100000 in
set_option maxHeartbeats 400000 in
theorem xH(x:Zk)(g:Nat)(cv lv tv:Value)(c:List Int)(w:World)(hg:Box w g [cv,lv,tv] 27)(hc:Row w cv c):
  Calls Tryz.prog 63 #[.agg #[.bool x.set,.int .i64 x.key,.int .i64 x.item,.int .i64 x.author,.int .i64 x.seq],.pointer (some ⟨g,0,none⟩)] w fun e w'=>e=.returned (.int .i64 (Zo c x))∧Below w.heap.size w w':=by
 obtain⟨a,cap,rfl,-,-,-⟩:=id hc;have C0:=Za (hc.alloc (.cells #[.bool x.set,.int .i64 x.key,.int .i64 x.item,.int .i64 x.author,.int .i64 x.seq] 106));have G0:=Za (hg.plus (.cells #[.bool x.set,.int .i64 x.key,.int .i64 x.item,.int .i64 x.author,.int .i64 x.seq] 106));have HB0:=Za (bpl w (.cells #[.bool x.set,.int .i64 x.key,.int .i64 x.item,.int .i64 x.author,.int .i64 x.seq] 106));have c0:=G0.get 0 rfl;clear hc hg
 go_enter Tryz.func63,Tryz.ntmps63
 go_wp2_with fail
 refine(liveWrong_fn x _ c _ C0.out).mono ?_;rintro e w1 ⟨rfl,hb⟩;have HB1:=Za (Zb HB0.out hb);have C1:=Za (C0.below hb (nlr _));clear HB0 hb C0
 go_wp2_with fail
 go_ret
 exact⟨rfl,HB1.out⟩
set_option maxRecDepth 100000 in
set_option maxHeartbeats 400000 in
theorem yK(t:Tal)(g:Nat)(cv lv tv:Value)(c:List Int)(w:World)(hg:Box w g [cv,lv,tv] 27)(hc:Row w cv c)(hk:∀k,k<c.length→0≤c.getD k 0∧c.getD k 0≤1000):
  Calls Tryz.prog 67 #[.agg #[.int .i64 t.key,.int .i64 t.author,.int .i64 t.sum],.pointer (some ⟨g,0,none⟩)] w fun e w'=>e=.returned (.int .i64 (Zq c t))∧Below w.heap.size w w':=by
 obtain⟨a,cap,rfl,-,-,-⟩:=id hc;have C0:=Za (hc.alloc (.cells #[.int .i64 t.key,.int .i64 t.author,.int .i64 t.sum] 108));have G0:=Za (hg.plus (.cells #[.int .i64 t.key,.int .i64 t.author,.int .i64 t.sum] 108));have HB0:=Za (bpl w (.cells #[.int .i64 t.key,.int .i64 t.author,.int .i64 t.sum] 108));have c0:=G0.get 0 rfl;clear hc hg
 go_enter Tryz.func67,Tryz.ntmps67
 go_wp2_with fail
 refine(tallyWrong_fn t _ c _ C0.out hk).mono ?_;rintro e w1 ⟨rfl,hb⟩;have HB1:=Za (Zb HB0.out hb);have C1:=Za (C0.below hb (nlr _));clear HB0 hb C0
 go_wp2_with fail
 go_ret
 exact⟨rfl,HB1.out⟩
end Go.Proofs.YtfhecilhcofboaaGreat
