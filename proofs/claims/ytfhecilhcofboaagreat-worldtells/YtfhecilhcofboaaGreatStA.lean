/- How lives and tallies are compared: cmp.Compare, cmp.Or, state.half, state.CompareLives, state.CompareTallies. -/
import Derived.Test.YtfhecilhcofboaaGreatSlV
import Derived.Test.YtfhecilhcofboaaGreatStPure
namespace Go.Proofs.YtfhecilhcofboaaGreat
open Go.RowKit

def Vw(x y:Int):Int:=if x<y then -1 else if y<x then 1 else 0
theorem cmpI_lt{x y:Int}(h:x<y):Vw x y=-1:=by simp[Vw,h]
theorem cmpI_gt{x y:Int}(h:y<x):Vw x y=1:=by rw[Vw,if_neg (by omega),if_pos h]
theorem cmpI_eq(x:Int):Vw x x=0:=by simp[Vw]
theorem xZ(x y:Int)(w:World):Calls Tryz.prog 108 #[.int .i64 x,.int .i64 y] w fun e w'=>e=.returned (.int .i64 (Vw x y))∧w'=w:=by
 have e1:(x != x)=false:=by simp
 have e2:(y != y)=false:=by simp
 rcases Int.lt_trichotomy x y with h|h|h
 ·rw[cmpI_lt h]
  go_enter Tryz.func108,Tryz.ntmps108
  go_wp2
  go_ret
  exact⟨rfl,rfl⟩
 ·subst h;rw[cmpI_eq];have h1:¬x<x:=by omega
  go_enter Tryz.func108,Tryz.ntmps108
  go_wp2
  go_ret
  exact⟨rfl,rfl⟩
 rw[cmpI_gt h];have h1:¬x<y:=by omega
 go_enter Tryz.func108,Tryz.ntmps108
 go_wp2
 go_ret
 exact⟨rfl,rfl⟩

def orL:List Int→Int
 |[]=>0
 |x::r=>if x=0 then orL r else x
theorem orL_skip{xs:List Int}{k:Nat}(h:orL (xs.take k)=0)(hk:k<xs.length)(hx:xs.getD k 0=0):orL (xs.take (k+1))=0:=by
 rw[List.take_succ_eq_append_getElem hk];rw[Ui hk]at hx;rw[hx];clear hx
 generalize xs.take k=l at h
 induction l with
 |nil=>simp[orL]
 |cons x r ih=>
  rw[List.cons_append,orL];rw[orL]at h
  split
  ·next e=>rw[if_pos e]at h;exact ih h
  next e=>rw[if_neg e]at h;exact absurd h e
theorem orL_stop:∀{xs:List Int} {k:Nat},orL (xs.take k)=0→k<xs.length→¬xs.getD k 0=0→orL xs=xs.getD k 0
 |[],k,_,h,_=>by simp at h
 |x::r,0,_,_,h=>by simp at h;simp[orL,h]
 |x::r,k+1,h0,hk,hx=>by
  rw[List.take_succ_cons,orL]at h0;rw[orL]
  split
  ·next e=>
   rw[if_pos e]at h0;rw[orL_stop (k:=k) h0 (by simpa using hk) (by simpa using hx)]
   simp
  next e=>rw[if_neg e]at h0;exact absurd h0 e
set_option maxRecDepth 100000 in
set_option maxHeartbeats 400000 in
theorem or_fn(v:Value)(xs:List Int)(w:World)(h:Row w v xs):Calls Tryz.prog 107 #[v] w fun e w'=>e=.returned (.int .i64 (orL xs))∧w'=w:=by
 have hx:=h.len_le;obtain⟨a,cap,rfl,hl,hm,hc⟩:=h;clear hl hm;obtain⟨r,HR⟩:∃r,Hid (orL xs=r):=⟨_,rfl⟩;rw[HR.out]
 go_enter Tryz.func107,Tryz.ntmps107
 go_wp2
 go_loop [8] (fun i=>∃k:Nat,k≤xs.length∧i=.int .i64 k∧Hid (orL (xs.take k)=0)) (fun i=>xs.length - (intOf i).toNat)
 case atStart=>exact⟨0,Nat.zero_le _,rfl,by simp[Hid,orL]⟩
 obtain⟨k,hk,rfl,HA⟩:=hrel
 by_cases hlt:k<xs.length
 ·obtain⟨b,off,rfl,hcell⟩:=hc k hlt;clear hc;obtain⟨y,HY⟩:∃y,Hid (xs.getD k 0=y):=⟨_,rfl⟩;rw[HY.out]at hcell
  by_cases hy:y=0
  ·have hy':(y != 0)=false:=by simp[hy]
   have HE:=Za hy;clear hy
   go_wp2
   go_round
   case rel=>exact⟨k+1,by omega,by go_num,orL_skip HA.out hlt (by rw[HY.out];exact HE.out)⟩
   case measure=>simp[intOf];omega
  have hy':(y != 0)=true:=by simp[hy]
  have HE:=Za hy;clear hy
  go_wp2
  go_ret
  exact⟨Xq (by rw[←HR.out,←HY.out];exact(orL_stop HA.out hlt (by rw[HY.out];exact HE.out)).symm),rfl⟩
 have hkl:xs.take k=xs:=List.take_of_length_le (by omega);rw[hkl]at HA
 go_wp2
 go_ret
 exact⟨Xq (by rw[←HR.out,HA.out]),rfl⟩

def Zv(x:Zk):List Value:=[.bool x.set,.int .i64 x.key,.int .i64 x.item,.int .i64 x.author,.int .i64 x.seq]
theorem Ze(x:Zk):(Zv x).length=5:=rfl
def Yb(t:Tal):List Value:=[.int .i64 t.key,.int .i64 t.author,.int .i64 t.sum]
theorem Zg(t:Tal):(Yb t).length=3:=rfl
def Ov(b:Bool):Int:=if b then 1 else 0
set_option maxRecDepth 100000 in
set_option maxHeartbeats 400000 in
theorem half_fn(x:Zk)(w:World):Calls Tryz.prog 109 #[.agg #[.bool x.set,.int .i64 x.key,.int .i64 x.item,.int .i64 x.author,.int .i64 x.seq]] w fun e w'=>e=.returned (.int .i64 (Ov x.set))∧Below w.heap.size w w':=by
 have hb:=bpl w (.cells #[.bool x.set,.int .i64 x.key,.int .i64 x.item,.int .i64 x.author,.int .i64 x.seq] 106)
 cases hs:x.set
 ·rw[hs]at hb
  go_enter Tryz.func109,Tryz.ntmps109
  go_wp2
  go_ret
  exact⟨rfl,hb⟩
 rw[hs]at hb
 go_enter Tryz.func109,Tryz.ntmps109
 go_wp2
 go_ret
 exact⟨rfl,hb⟩
end Go.Proofs.YtfhecilhcofboaaGreat
/- state.CompareLives and state.CompareTallies. -/
namespace Go.Proofs.YtfhecilhcofboaaGreat
open Go.RowKit

theorem xN{w:World}{g:Nat}{xs:List Int}{n:Nat}(h:Box w g (xs.map (Value.int .i64)) 3)(hn:xs.length=n)(hm:n≤1000):Row w (.slice (some ⟨g,0,none⟩) n n) xs:=by
 subst hn;refine⟨some ⟨g,0,none⟩,xs.length,rfl,nlr _,by unfold maxLen;omega,fun i hi=>⟨g,0,rfl,?_⟩⟩;rw[Nat.zero_add];exact h.get i (by simp[List.getD,hi])
def Yj(a b:Zk):Int:=orL [Vw (Ov a.set) (Ov b.set),Vw a.key b.key,Vw a.item b.item,Vw a.author b.author,Vw a.seq b.seq]
def Yr(a b:Tal):Int:=orL [Vw a.key b.key,Vw a.author b.author]

set_option maxRecDepth 100000 in
set_option maxHeartbeats 2000000 in
theorem compareLives_fn(x y:Zk)(w:World):Calls Tryz.prog 66 #[.agg #[.bool x.set,.int .i64 x.key,.int .i64 x.item,.int .i64 x.author,.int .i64 x.seq],.agg #[.bool y.set,.int .i64 y.key,.int .i64 y.item,.int .i64 y.author,.int .i64 y.seq]] w fun e w'=>e=.returned (.int .i64 (Yj x y))∧Below w.heap.size w w':=by
 obtain⟨r,HR⟩:∃r,Hid (Yj x y=r):=⟨_,rfl⟩;rw[HR.out];obtain⟨W0,HW0⟩:∃W0,Hid ((w.alloc (.cells #[.bool x.set,.int .i64 x.key,.int .i64 x.item,.int .i64 x.author,.int .i64 x.seq] 106)).alloc (.cells #[.bool y.set,.int .i64 y.key,.int .i64 y.item,.int .i64 y.author,.int .i64 y.seq] 106)=W0):=⟨_,rfl⟩;have HB:Hid (Below w.heap.size w W0):=by rw[←HW0.out];exact Below.plus (bpl w _) _
 have HX:Hid (Box W0 w.heap.size [.bool x.set,.int .i64 x.key,.int .i64 x.item,.int .i64 x.author,.int .i64 x.seq] 106):=by rw[←HW0.out];exact(Box.new w _ _).plus _
 have HY:Hid (Box W0 (w.heap.size+1) [.bool y.set,.int .i64 y.key,.int .i64 y.item,.int .i64 y.author,.int .i64 y.seq] 106):=by
  rw[←HW0.out];have h:=Box.new (w.alloc (.cells #[.bool x.set,.int .i64 x.key,.int .i64 x.item,.int .i64 x.author,.int .i64 x.seq] 106)) [.bool y.set,.int .i64 y.key,.int .i64 y.item,.int .i64 y.author,.int .i64 y.seq] 106;rw[World.size_alloc]at h;exact h
 obtain⟨g0,HG0⟩:∃g0,Hid (w.heap.size=g0):=⟨_,rfl⟩;rw[HG0.out]at HX HY
 have HK:Hid (∀w',Zh W0 w'→(w'.cell? ⟨g0,0,none⟩=some (.bool x.set)∧w'.cell? ⟨g0,1,none⟩=some (.int .i64 x.key)∧w'.cell? ⟨g0,2,none⟩=some (.int .i64 x.item)∧w'.cell? ⟨g0,3,none⟩=some (.int .i64 x.author)∧w'.cell? ⟨g0,4,none⟩=some (.int .i64 x.seq))∧
   w'.cell? ⟨g0+1,0,none⟩=some (.bool y.set)∧w'.cell? ⟨g0+1,1,none⟩=some (.int .i64 y.key)∧w'.cell? ⟨g0+1,2,none⟩=some (.int .i64 y.item)∧w'.cell? ⟨g0+1,3,none⟩=some (.int .i64 y.author)∧w'.cell? ⟨g0+1,4,none⟩=some (.int .i64 y.seq)):=
  fun w' hg=>⟨(HX.below hg (nlr _)).reads,(HY.below hg (nlr _)).reads⟩
 have H1:Hid (∀(z:Zk) w',Zh W0 w'→Calls Tryz.prog 109 #[.agg #[.bool z.set,.int .i64 z.key,.int .i64 z.item,.int .i64 z.author,.int .i64 z.seq]] w' fun e w''=>e=.returned (.int .i64 (Ov z.set))∧Zh W0 w''):=fun z w' hg=>by
  refine(half_fn z w').mono ?_;rintro e w'' ⟨rfl,hb⟩;exact⟨rfl,Zd hg hb⟩
 have H3:Hid (∀w',Zh W0 w'→Calls Tryz.prog 107 #[.slice (some ⟨w'.heap.size,0,none⟩) 5 5] (w'.alloc (.cells #[.int .i64 (Vw (Ov x.set) (Ov y.set)),.int .i64 (Vw x.key y.key),.int .i64 (Vw x.item y.item),.int .i64 (Vw x.author y.author),.int .i64 (Vw x.seq y.seq)] 3)) fun e w''=>e=.returned (.int .i64 r)∧Zh W0 w''):=fun w' hg=>by
  refine(or_fn _ [Vw (Ov x.set) (Ov y.set),Vw x.key y.key,Vw x.item y.item,Vw x.author y.author,Vw x.seq y.seq] _ (xN (n:=5) (Box.new w' _ _) rfl (by omega))).mono ?_;rintro e w'' ⟨rfl,rfl⟩;refine⟨?_,Vm _ hg⟩;rw[←HR.out];rfl
 clear HX HY HR
 go_enter Tryz.func66,Tryz.ntmps66
 go_upto_region 1 with fail
 rw[HW0.out,HG0.out]
 go_region_held3 (fun w'=>(w'.cell? ⟨g0,0,none⟩=some (.bool x.set)∧w'.cell? ⟨g0,1,none⟩=some (.int .i64 x.key)∧w'.cell? ⟨g0,2,none⟩=some (.int .i64 x.item)∧w'.cell? ⟨g0,3,none⟩=some (.int .i64 x.author)∧w'.cell? ⟨g0,4,none⟩=some (.int .i64 x.seq))∧
   w'.cell? ⟨g0+1,0,none⟩=some (.bool y.set)∧w'.cell? ⟨g0+1,1,none⟩=some (.int .i64 y.key)∧w'.cell? ⟨g0+1,2,none⟩=some (.int .i64 y.item)∧w'.cell? ⟨g0+1,3,none⟩=some (.int .i64 y.author)∧w'.cell? ⟨g0+1,4,none⟩=some (.int .i64 y.seq))
  ((refine HK.out _ ?_;(first|assumption|exact Zf (Zi _)|exact Zf (by assumption)|exact Vm _ (by assumption))))
  (first
   |(go_at_call 109;refine(H1.out _ _ ?_).mono ?_;(first|assumption|exact Zf (Zi _)|exact Zf (by assumption));rintro e w' ⟨rfl,hgr⟩)
   |(go_at_call 108;refine(xZ _ _ _).mono ?_;rintro e w' ⟨rfl,rfl⟩)
   |(go_at_call 107;refine(H3.out _ ?_).mono ?_;(first|assumption|exact Zf (Zi _)|exact Zf (by assumption));rintro e w' ⟨rfl,hgr⟩))
 all_goals (go_wp2_with fail;go_ret;exact⟨rfl,Zb HB.out (by assumption)⟩)
set_option maxRecDepth 100000 in
set_option maxHeartbeats 2000000 in
theorem yH(x y:Tal)(w:World):Calls Tryz.prog 70 #[.agg #[.int .i64 x.key,.int .i64 x.author,.int .i64 x.sum],.agg #[.int .i64 y.key,.int .i64 y.author,.int .i64 y.sum]] w fun e w'=>e=.returned (.int .i64 (Yr x y))∧Below w.heap.size w w':=by
 obtain⟨r,HR⟩:∃r,Hid (Yr x y=r):=⟨_,rfl⟩;rw[HR.out];obtain⟨W0,HW0⟩:∃W0,Hid ((w.alloc (.cells #[.int .i64 x.key,.int .i64 x.author,.int .i64 x.sum] 108)).alloc (.cells #[.int .i64 y.key,.int .i64 y.author,.int .i64 y.sum] 108)=W0):=⟨_,rfl⟩;have HB:Hid (Below w.heap.size w W0):=by rw[←HW0.out];exact Below.plus (bpl w _) _
 have HX:Hid (Box W0 w.heap.size [.int .i64 x.key,.int .i64 x.author,.int .i64 x.sum] 108):=by rw[←HW0.out];exact(Box.new w _ _).plus _
 have HY:Hid (Box W0 (w.heap.size+1) [.int .i64 y.key,.int .i64 y.author,.int .i64 y.sum] 108):=by
  rw[←HW0.out];have h:=Box.new (w.alloc (.cells #[.int .i64 x.key,.int .i64 x.author,.int .i64 x.sum] 108)) [.int .i64 y.key,.int .i64 y.author,.int .i64 y.sum] 108;rw[World.size_alloc]at h;exact h
 obtain⟨g0,HG0⟩:∃g0,Hid (w.heap.size=g0):=⟨_,rfl⟩;rw[HG0.out]at HX HY
 have HK:Hid (∀w',Zh W0 w'→(w'.cell? ⟨g0,0,none⟩=some (.int .i64 x.key)∧w'.cell? ⟨g0,1,none⟩=some (.int .i64 x.author))∧
   w'.cell? ⟨g0+1,0,none⟩=some (.int .i64 y.key)∧w'.cell? ⟨g0+1,1,none⟩=some (.int .i64 y.author)):=
  fun w' hg=>⟨⟨(HX.below hg (nlr _)).get 0 rfl,(HX.below hg (nlr _)).get 1 rfl⟩,(HY.below hg (nlr _)).get 0 rfl,(HY.below hg (nlr _)).get 1 rfl⟩
 have H3:Hid (∀w',Box w' W0.heap.size [.int .i64 (Vw x.key y.key),.int .i64 (Vw x.author y.author)] 3→Zh W0 w'→Calls Tryz.prog 107 #[.slice (some ⟨W0.heap.size,0,none⟩) 2 2] w' fun e w''=>e=.returned (.int .i64 r)∧Zh W0 w''):=fun w' hbx hg=>by
  refine(or_fn _ [Vw x.key y.key,Vw x.author y.author] _ (xN (n:=2) hbx rfl (by omega))).mono ?_;rintro e w'' ⟨rfl,rfl⟩;refine⟨?_,hg⟩;rw[←HR.out];rfl
 clear HX HY HR
 go_enter Tryz.func70,Tryz.ntmps70
 go_upto_region 1 with fail
 rw[HW0.out,HG0.out]
 go_region_held3 (fun w'=>(w'.cell? ⟨g0,0,none⟩=some (.int .i64 x.key)∧w'.cell? ⟨g0,1,none⟩=some (.int .i64 x.author))∧
   w'.cell? ⟨g0+1,0,none⟩=some (.int .i64 y.key)∧w'.cell? ⟨g0+1,1,none⟩=some (.int .i64 y.author))
  ((refine HK.out _ ?_;(first|assumption|exact Zf (Zi _)|exact Zf (by assumption)|exact Vm _ (by assumption)|exact Vm _ (Zf (Zi _)))))
  (first
   |(go_at_call 108;refine(xZ _ _ _).mono ?_;rintro e w' ⟨rfl,rfl⟩)
   |(go_at_call 107;refine(H3.out _ ?_ ?_).mono ?_;(exact Box.new W0 _ _);(first|exact Vm _ (Zf (Zi _))|exact Zf (Vm _ (Zi _)));rintro e w' ⟨rfl,hgr⟩))
 all_goals (go_wp2_with fail;go_ret;exact⟨rfl,Zb HB.out (by assumption)⟩)

theorem or_lt(x y:Int)(r:List Int):orL (Vw x y::r)<0↔x<y∨(x=y∧orL r<0):=by
 rcases Int.lt_trichotomy x y with h|h|h
 ·rw[cmpI_lt h,orL,if_neg (by omega)];omega
 ·subst h;rw[cmpI_eq,orL,if_pos rfl];omega
 rw[cmpI_gt h,orL,if_neg (by omega)];omega
theorem xQ(x y:Int)(r:List Int):orL (Vw x y::r)=0↔x=y∧orL r=0:=by
 rcases Int.lt_trichotomy x y with h|h|h
 ·rw[cmpI_lt h,orL,if_neg (by omega)];omega
 ·subst h;rw[cmpI_eq,orL,if_pos rfl];omega
 rw[cmpI_gt h,orL,if_neg (by omega)];omega
theorem or_nil:orL []=0:=rfl
theorem Jw{a b:Zk}:Yj a b<0↔Jd a b:=by
 unfold Yj Jd;rw[or_lt,or_lt,or_lt,or_lt,or_lt,or_nil]
 cases a.set <;> cases b.set <;> simp[Ov]
theorem zE{a b:Zk}:Yj a b=0↔a=b:=by
 obtain⟨s1,k1,i1,u1,q1⟩:=a;obtain⟨s2,k2,i2,u2,q2⟩:=b;unfold Yj;rw[xQ,xQ,xQ,xQ,xQ,or_nil]
 cases s1 <;> cases s2 <;> simp[Ov]
theorem cmpL_ge{a b:Zk}:0≤Yj a b↔Xc a b=false:=by
 have h:=@Jw a b;rw[←zU]at h
 cases hb:Xc a b
 ·rw[hb]at h;simp at h;simp;exact h
 rw[hb]at h;simp at h;simp;omega
theorem Qq{a b:Tal}:Yr a b<0↔Jb a b:=by
 unfold Yr Jb;rw[or_lt,or_lt,or_nil];omega
theorem cmpT_zero{a b:Tal}:Yr a b=0↔a.key=b.key∧a.author=b.author:=by
 unfold Yr;rw[xQ,xQ,or_nil];omega
end Go.Proofs.YtfhecilhcofboaaGreat
