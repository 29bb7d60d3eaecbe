/- state.goes: what tells of a live whether an update takes it away. -/
import Derived.Test.YtfhecilhcofboaaGreatIns
namespace Go.Proofs.YtfhecilhcofboaaGreat
open Go.RowKit

theorem enters {f : FuncId} {fn : Func} (hf : Tryz.prog.funcs[f]? = some fn) (hname : (fn.name == "runtime.NumGoroutine") = false) (hb : fn.body.isSome = true) : ∀ (args : Array Value) (w : World), (callFunc f args).run Tryz.prog w = .ok (.enter f args) w := by
 obtain⟨c,hc⟩:=Option.isSome_iff_exists.1 hb;exact Go.Proofs.enters_of hf hname hc

set_option maxRecDepth 100000 in
set_option maxHeartbeats 400000 in
theorem goes1_fn(x:Zk)(g:Nat)(u:Upd)(sv:Value)(w:World)(hg:Box w g [.int .i64 u.author,sv,.int .i64 u.kind,.int .i64 u.key,.int .i64 u.item] 33)(hs:Row w sv u.seen):
  Calls Tryz.prog 141 #[.agg #[.bool x.set,.int .i64 x.key,.int .i64 x.item,.int .i64 x.author,.int .i64 x.seq],.pointer (some ⟨g,0,none⟩)] w fun e w'=>e=.returned (.bool (Vy u.seen x.author x.seq))∧Below w.heap.size w w':=by
 obtain⟨a,cap,rfl,-,-,-⟩:=id hs;have S0:=Za (hs.alloc (.cells #[.bool x.set,.int .i64 x.key,.int .i64 x.item,.int .i64 x.author,.int .i64 x.seq] 106));have G0:=Za (hg.plus (.cells #[.bool x.set,.int .i64 x.key,.int .i64 x.item,.int .i64 x.author,.int .i64 x.seq] 106));have HB0:=Za (bpl w (.cells #[.bool x.set,.int .i64 x.key,.int .i64 x.item,.int .i64 x.author,.int .i64 x.seq] 106));have c1:=G0.get 1 rfl;clear hs hg
 go_enter Tryz.func141,Tryz.ntmps141
 go_wp2_with fail
 refine(xB _ u.seen x.author x.seq _ S0.out).mono ?_;rintro e w' ⟨rfl,hw'⟩;rw[hw'];clear hw' w'
 go_wp2_with fail
 go_ret
 exact⟨rfl,HB0.out⟩

theorem endsB_reg{u:Upd}{x:Zk}(h:u.kind=1∨u.kind=2):Yy u x=(!x.set&&(decide (x.key=u.key)&&Vy u.seen x.author x.seq)):=by
 have e:decide (u.key=x.key)=decide (x.key=u.key):=by simp only[eq_comm]
 unfold Yy;rw[e]
 rcases h with h|h <;> rw[h] <;> cases x.set <;> simp
theorem endsB_set{u:Upd}{x:Zk}(h:u.kind=4):Yy u x=(x.set&&(decide (x.key=u.key)&&(decide (x.item=u.item)&&Vy u.seen x.author x.seq))):=by
 unfold Yy;simp only[h,decide_true];have e:decide (u.key=x.key)=decide (x.key=u.key):=by simp only[eq_comm]
 have e2:decide (u.item=x.item)=decide (x.item=u.item):=by simp only[eq_comm]
 rw[e,e2]
 cases x.set
 ·simp
 cases decide (x.key=u.key) <;> cases decide (x.item=u.item) <;> simp
theorem endsB_no{u:Upd}{x:Zk}(h:¬(u.kind=1∨u.kind=2∨u.kind=4)):Yy u x=false:=by
 unfold Yy;simp only[h,decide_false,Bool.false_and]

set_option maxRecDepth 100000 in
set_option maxHeartbeats 1000000 in
theorem goes2_fn(x:Zk)(g g2:Nat)(u:Upd)(sv:Value)(w:World)(hg:Box w g [.int .i64 u.author,sv,.int .i64 u.kind,.int .i64 u.key,.int .i64 u.item] 33)(hs:Row w sv u.seen)(hg2:Box w g2 [.func (Fn.func 141) #[] #[.pointer (some ⟨g,0,none⟩)]] 169)(hk:u.kind=1∨u.kind=2):
  Calls Tryz.prog 142 #[.agg #[.bool x.set,.int .i64 x.key,.int .i64 x.item,.int .i64 x.author,.int .i64 x.seq],.pointer (some ⟨g,0,none⟩),.pointer (some ⟨g2,0,none⟩)] w fun e w'=>e=.returned (.bool (Yy u x))∧Below w.heap.size w w':=by
 rw[endsB_reg hk];clear hk;have S0:=Za (hs.alloc (.cells #[.bool x.set,.int .i64 x.key,.int .i64 x.item,.int .i64 x.author,.int .i64 x.seq] 106));have G0:=Za (hg.plus (.cells #[.bool x.set,.int .i64 x.key,.int .i64 x.item,.int .i64 x.author,.int .i64 x.seq] 106));have F0:=Za (hg2.plus (.cells #[.bool x.set,.int .i64 x.key,.int .i64 x.item,.int .i64 x.author,.int .i64 x.seq] 106));have HB0:=Za (bpl w (.cells #[.bool x.set,.int .i64 x.key,.int .i64 x.item,.int .i64 x.author,.int .i64 x.seq] 106));have c3:=G0.get 3 rfl;have e0:=F0.get 0 rfl;clear hs hg hg2;obtain⟨r,HR⟩:∃r,Hid (Vy u.seen x.author x.seq=r):=⟨_,rfl⟩;rw[HR.out];obtain⟨xs,xk,xi,xa,xq⟩:=x
 simp only at*
 cases xs
 ·by_cases hkk:xk=u.key
  ·have h1:(xk==u.key)=true:=by simp[hkk]
   have h2:decide (xk=u.key)=true:=by simp[hkk]
   rw[h2];clear h2 hkk
   go_enter Tryz.func142,Tryz.ntmps142
   go_wp2_with fail
   refine(goes1_fn ⟨false,xk,xi,xa,xq⟩ g u sv _ G0.out S0.out).mono ?_;rintro e w1 ⟨rfl,hb⟩;have HB1:=Za (Zb HB0.out hb);have S1:=Za (S0.below hb (nlr _));have G1:=Za (G0.below hb (nlr _));clear HB0 hb S0 G0;simp only[HR.out]
   go_wp2_with fail
   go_ret
   exact⟨by simp,HB1.out⟩
  have h1:(xk==u.key)=false:=by simp[hkk]
  have h2:decide (xk=u.key)=false:=by simp[hkk]
  rw[h2];clear h2 hkk
  go_enter Tryz.func142,Tryz.ntmps142
  go_wp2_with fail
  go_ret
  exact⟨by simp,HB0.out⟩
 go_enter Tryz.func142,Tryz.ntmps142
 go_wp2_with fail
 go_ret
 exact⟨by simp,HB0.out⟩
set_option maxRecDepth 100000 in
set_option maxHeartbeats 1000000 in
theorem goes3_fn(x:Zk)(g g2:Nat)(u:Upd)(sv:Value)(w:World)(hg:Box w g [.int .i64 u.author,sv,.int .i64 u.kind,.int .i64 u.key,.int .i64 u.item] 33)(hs:Row w sv u.seen)(hg2:Box w g2 [.func (Fn.func 141) #[] #[.pointer (some ⟨g,0,none⟩)]] 169)(hk:u.kind=4):
  Calls Tryz.prog 143 #[.agg #[.bool x.set,.int .i64 x.key,.int .i64 x.item,.int .i64 x.author,.int .i64 x.seq],.pointer (some ⟨g,0,none⟩),.pointer (some ⟨g2,0,none⟩)] w fun e w'=>e=.returned (.bool (Yy u x))∧Below w.heap.size w w':=by
 rw[endsB_set hk];clear hk;have S0:=Za (hs.alloc (.cells #[.bool x.set,.int .i64 x.key,.int .i64 x.item,.int .i64 x.author,.int .i64 x.seq] 106));have G0:=Za (hg.plus (.cells #[.bool x.set,.int .i64 x.key,.int .i64 x.item,.int .i64 x.author,.int .i64 x.seq] 106));have F0:=Za (hg2.plus (.cells #[.bool x.set,.int .i64 x.key,.int .i64 x.item,.int .i64 x.author,.int .i64 x.seq] 106));have HB0:=Za (bpl w (.cells #[.bool x.set,.int .i64 x.key,.int .i64 x.item,.int .i64 x.author,.int .i64 x.seq] 106));have c3:=G0.get 3 rfl;have c4:=G0.get 4 rfl;have e0:=F0.get 0 rfl;clear hs hg hg2;obtain⟨r,HR⟩:∃r,Hid (Vy u.seen x.author x.seq=r):=⟨_,rfl⟩;rw[HR.out];obtain⟨xs,xk,xi,xa,xq⟩:=x
 simp only at*
 cases xs
 ·go_enter Tryz.func143,Tryz.ntmps143
  go_wp2_with fail
  go_ret
  exact⟨by simp,HB0.out⟩
 by_cases hkk:xk=u.key
 ·have h1:(xk==u.key)=true:=by simp[hkk]
  have h2:decide (xk=u.key)=true:=by simp[hkk]
  rw[h2];clear h2 hkk
  by_cases hii:xi=u.item
  ·have h3:(xi==u.item)=true:=by simp[hii]
   have h4:decide (xi=u.item)=true:=by simp[hii]
   rw[h4];clear h4 hii
   go_enter Tryz.func143,Tryz.ntmps143
   go_wp2_with fail
   refine(goes1_fn ⟨true,xk,xi,xa,xq⟩ g u sv _ G0.out S0.out).mono ?_;rintro e w1 ⟨rfl,hb⟩;have HB1:=Za (Zb HB0.out hb);have S1:=Za (S0.below hb (nlr _));have G1:=Za (G0.below hb (nlr _));clear HB0 hb S0 G0;simp only[HR.out]
   go_wp2_with fail
   go_ret
   exact⟨by simp,HB1.out⟩
  have h3:(xi==u.item)=false:=by simp[hii]
  have h4:decide (xi=u.item)=false:=by simp[hii]
  rw[h4];clear h4 hii
  go_enter Tryz.func143,Tryz.ntmps143
  go_wp2_with fail
  go_ret
  exact⟨by simp,HB0.out⟩
 have h1:(xk==u.key)=false:=by simp[hkk]
 have h2:decide (xk=u.key)=false:=by simp[hkk]
 rw[h2];clear h2 hkk
 go_enter Tryz.func143,Tryz.ntmps143
 go_wp2_with fail
 go_ret
 exact⟨by simp,HB0.out⟩
set_option maxRecDepth 100000 in
theorem goes4_fn(x:Zk)(w:World):
  Calls Tryz.prog 144 #[.agg #[.bool x.set,.int .i64 x.key,.int .i64 x.item,.int .i64 x.author,.int .i64 x.seq]] w fun e w'=>e=.returned (.bool false)∧Below w.heap.size w w':=by
 have hb:=bpl w (.cells #[.bool x.set,.int .i64 x.key,.int .i64 x.item,.int .i64 x.author,.int .i64 x.seq] 106)
 go_enter Tryz.func144,Tryz.ntmps144
 go_wp2
 go_ret
 exact⟨rfl,hb⟩

theorem Box.grownN{w w':World}{b:Nat}{cs:List Value}{t:TypeId}{row:Option Nat}(h:Box w b cs t)(hg:w.grownBy w' row)(hne:some b≠row):Box w' b cs t:=by
 unfold Box at h ⊢;rw[hg.block b (lt_of_block h) hne];exact h

set_option maxRecDepth 100000 in
set_option maxHeartbeats 1000000 in
theorem goes_fn(v:Value)(u:Upd)(w0 w:World)(row:Option Nat)(h0:Jf w0 v u)(hb0:Below w0.heap.size w0 w)(hrow:∀k,row=some k→w0.heap.size≤k∧k<w.heap.size):
  Calls Tryz.prog 131 #[v] w fun e w'=>∃(fn:Nat) (caps:Array Value),e=.returned (.func (.func fn) #[] caps)∧(∀args w,(callFunc fn args).run Tryz.prog w=.ok (.enter fn args) w)∧
   (∀w'',w'.grownBy w'' row→∀x:Zk,Calls Tryz.prog fn (#[.agg #[.bool x.set,.int .i64 x.key,.int .i64 x.item,.int .i64 x.author,.int .i64 x.seq]]++caps) w'' fun e w3=>e=.returned (.bool (Yy u x))∧Below w''.heap.size w'' w3)∧Below w.heap.size w w':=by
 obtain⟨sv,rfl,hs⟩:=h0;have hb2:=Below.plus (bpl w (.cells #[.int .i64 u.author,sv,.int .i64 u.kind,.int .i64 u.key,.int .i64 u.item] 33)) (.cells #[.func (Fn.func 141) #[] #[.pointer (some ⟨w.heap.size,0,none⟩)]] 169);have hb3:=Zb hb0 hb2;have hX:=(Box.new w [.int .i64 u.author,sv,.int .i64 u.kind,.int .i64 u.key,.int .i64 u.item] 33).plus (.cells #[.func (Fn.func 141) #[] #[.pointer (some ⟨w.heap.size,0,none⟩)]] 169);have hF:=Box.new (w.alloc (.cells #[.int .i64 u.author,sv,.int .i64 u.kind,.int .i64 u.key,.int .i64 u.item] 33)) [.func (Fn.func 141) #[] #[.pointer (some ⟨w.heap.size,0,none⟩)]] 169;rw[World.size_alloc]at hF
 have HK:Hid (∀w'',((w.alloc (.cells #[.int .i64 u.author,sv,.int .i64 u.kind,.int .i64 u.key,.int .i64 u.item] 33)).alloc (.cells #[.func (Fn.func 141) #[] #[.pointer (some ⟨w.heap.size,0,none⟩)]] 169)).grownBy w'' row→
   Box w'' w.heap.size [.int .i64 u.author,sv,.int .i64 u.kind,.int .i64 u.key,.int .i64 u.item] 33∧Row w'' sv u.seen∧Box w'' (w.heap.size+1) [.func (Fn.func 141) #[] #[.pointer (some ⟨w.heap.size,0,none⟩)]] 169):=fun w'' hg=>by
  have n1:some w.heap.size≠row:=fun e=>by have:=hrow _ e.symm;omega
  have n2:some (w.heap.size+1)≠row:=fun e=>by have:=hrow _ e.symm;omega
  have hbw:Below w0.heap.size w0 w'':=hb3.grown hg hb3.size (fun k hk=>(hrow k hk).1);exact⟨hX.grownN hg n1,hs.below hbw (nlr _),hF.grownN hg n2⟩
 have HB:=Za hb2
 have hst:(store ⟨w.heap.size+1,0,none⟩ (.func (Fn.func 141) #[] #[.pointer (some ⟨w.heap.size,0,none⟩)])).run Tryz.prog ((w.alloc (.cells #[.int .i64 u.author,sv,.int .i64 u.kind,.int .i64 u.key,.int .i64 u.item] 33)).alloc (.cells #[.nilFunc] 169))=
   .ok () ((w.alloc (.cells #[.int .i64 u.author,sv,.int .i64 u.kind,.int .i64 u.key,.int .i64 u.item] 33)).alloc (.cells #[.func (Fn.func 141) #[] #[.pointer (some ⟨w.heap.size,0,none⟩)]] 169)):=by
  have hz:=Box.new (w.alloc (.cells #[.int .i64 u.author,sv,.int .i64 u.kind,.int .i64 u.key,.int .i64 u.item] 33)) [.nilFunc] 169;rw[World.size_alloc]at hz;rw[run_store _ _ _ _ _ rfl,hz.get 0 rfl];simp only[hz.free 0];rw[World.setCell_alloc_at _ _ _ _ _ (by rw[World.size_alloc])];rfl
 clear hb0 hb2 hb3 hX hF hrow hs;obtain⟨ua,us,uk,uy,ui⟩:=u
 simp only at*
 rcases(show uk=1∨uk=2∨uk=4∨(¬uk=1∧¬uk=2∧¬uk=4) by omega)with rfl|rfl|rfl|⟨h1,h2,h4⟩
 ·go_enter Tryz.func131,Tryz.ntmps131
  go_wp2
  go_ret
  refine⟨142,#[.pointer (some ⟨w.heap.size,0,none⟩),.pointer (some ⟨w.heap.size+1,0,none⟩)],rfl,enters Tryz.func142 (by kernel_rfl) (by kernel_rfl),fun w'' hg x=>?_,HB.out⟩;obtain⟨k1,k2,k3⟩:=HK.out w'' hg;exact goes2_fn x _ _ _ _ w'' k1 k2 k3 (.inl rfl)
 ·go_enter Tryz.func131,Tryz.ntmps131
  go_wp2
  go_ret
  refine⟨142,#[.pointer (some ⟨w.heap.size,0,none⟩),.pointer (some ⟨w.heap.size+1,0,none⟩)],rfl,enters Tryz.func142 (by kernel_rfl) (by kernel_rfl),fun w'' hg x=>?_,HB.out⟩;obtain⟨k1,k2,k3⟩:=HK.out w'' hg;exact goes2_fn x _ _ _ _ w'' k1 k2 k3 (.inr rfl)
 ·go_enter Tryz.func131,Tryz.ntmps131
  go_wp2
  go_ret
  refine⟨143,#[.pointer (some ⟨w.heap.size,0,none⟩),.pointer (some ⟨w.heap.size+1,0,none⟩)],rfl,enters Tryz.func143 (by kernel_rfl) (by kernel_rfl),fun w'' hg x=>?_,HB.out⟩;obtain⟨k1,k2,k3⟩:=HK.out w'' hg;exact goes3_fn x _ _ _ _ w'' k1 k2 k3 rfl
 go_enter Tryz.func131,Tryz.ntmps131
 go_wp2
 go_ret
 refine⟨144,#[],rfl,enters Tryz.func144 (by kernel_rfl) (by kernel_rfl),fun w'' hg x=>?_,HB.out⟩;rw[endsB_no (by simp only;omega)];exact goes4_fn x w''
end Go.Proofs.YtfhecilhcofboaaGreat
