/- Two states put together, as lists: what both come to, played together. -/
import Derived.Test.YtfhecilhcofboaaGreatStPure
import Derived.Test.YtfhecilhcofboaaGreatStL
namespace Go.Proofs.YtfhecilhcofboaaGreat
open Go.RowKit

def insA{α:Type}(lt:α→α→Bool)(x:α):List α→List α
 |[]=>[x]
 |y::r=>if lt x y then x::y::r else y::insA lt x r
def Xr{α:Type}(lt:α→α→Bool)(l:List α):List α:=l.foldr (insA lt) []
section
variable {α:Type}{lt:α→α→Bool}
theorem mem_insA{x z:α}:∀{l:List α},z ∈ insA lt x l↔z=x∨z ∈ l
 |[]=>by simp[insA]
 |y::r=>by
  unfold insA
  split
  ·simp
  rw[List.mem_cons,mem_insA (l:=r),List.mem_cons]
  constructor
  ·rintro(h|h|h)
   ·exact .inr (.inl h)
   ·exact .inl h
   exact .inr (.inr h)
  rintro(h|h|h)
  ·exact .inr (.inl h)
  ·exact .inl h
  exact .inr (.inr h)
theorem Qz{z:α}:∀{l:List α},z ∈ Xr lt l↔z ∈ l
 |[]=>by simp[Xr]
 |y::r=>by
  have ih:=Qz (z:=z) (l:=r);unfold Xr at ih ⊢;rw[List.foldr_cons,mem_insA,ih,List.mem_cons]
theorem insA_pair(tr:∀x y z,lt x y=true→lt y z=true→lt x z=true){x:α}:∀{l:List α},l.Pairwise (fun a b=>lt a b=true)→(∀y ∈ l,lt x y=true∨lt y x=true)→(insA lt x l).Pairwise (fun a b=>lt a b=true)
 |[],_,_=>by simp[insA]
 |y::r,h,hx=>by
  obtain⟨h1,h2⟩:=List.pairwise_cons.1 h;unfold insA
  split
  ·next hc=>
   refine List.pairwise_cons.2 ⟨fun z hz=>?_,h⟩
   rcases List.mem_cons.1 hz with rfl|hz
   ·exact hc
   exact tr _ _ _ hc (h1 z hz)
  next hc=>
  have hyx:lt y x=true:=(hx y (by simp)).resolve_left hc;refine List.pairwise_cons.2 ⟨fun z hz=>?_,insA_pair tr h2 (fun z hz=>hx z (List.mem_cons_of_mem _ hz))⟩
  rcases mem_insA.1 hz with rfl|hz
  ·exact hyx
  exact h1 z hz
theorem Qx(tr:∀x y z,lt x y=true→lt y z=true→lt x z=true):∀{l:List α},l.Pairwise (fun a b=>lt a b=true∨lt b a=true)→(Xr lt l).Pairwise (fun a b=>lt a b=true)
 |[],_=>by simp[Xr]
 |y::r,h=>by
  obtain⟨h1,h2⟩:=List.pairwise_cons.1 h;have ih:=Qx tr h2;unfold Xr at ih ⊢;rw[List.foldr_cons];exact insA_pair tr ih (fun z hz=>h1 z (Qz.1 hz))
theorem pair_ext(irr:∀x,lt x x=false)(tr:∀x y z,lt x y=true→lt y z=true→lt x z=true):∀{a b:List α},a.Pairwise (fun x y=>lt x y=true)→b.Pairwise (fun x y=>lt x y=true)→(∀x,x ∈ a↔x ∈ b)→a=b
 |[],[],_,_,_=>rfl
 |[],y::b,_,_,h=>by have:=(h y).2 (by simp);simp at this
 |x::a,[],_,_,h=>by have:=(h x).1 (by simp);simp at this
 |x::a,y::b,ha,hb,h=>by
  obtain⟨ha1,ha2⟩:=List.pairwise_cons.1 ha;obtain⟨hb1,hb2⟩:=List.pairwise_cons.1 hb;have no:∀z,¬lt z z=true:=fun z hz=>by rw[irr z]at hz;cases hz
  have hxy:x=y:=by
   rcases List.mem_cons.1 ((h x).1 (by simp))with e|e
   ·exact e
   rcases List.mem_cons.1 ((h y).2 (by simp))with e'|e'
   ·exact e'.symm
   exact absurd (tr _ _ _ (ha1 y e') (hb1 x e)) (no x)
  subst hxy;rw[pair_ext irr tr (a:=a) (b:=b) ha2 hb2 (fun z=>?_)]
  constructor
  ·intro hz
   rcases List.mem_cons.1 ((h z).1 (List.mem_cons_of_mem _ hz))with e|e
   ·subst e;exact absurd (ha1 z hz) (no z)
   exact e
  intro hz
  rcases List.mem_cons.1 ((h z).2 (List.mem_cons_of_mem _ hz))with e|e
  ·subst e;exact absurd (hb1 z hz) (no z)
  exact e
theorem perm_sortA(irr:∀x,lt x x=false)(tr:∀x y z,lt x y=true→lt y z=true→lt x z=true){l m:List α}(hp:m.Perm l)(hs:m.Pairwise (fun x y=>lt y x=false))(hc:l.Pairwise (fun a b=>lt a b=true∨lt b a=true)):m=Xr lt l:=by
 have hm:m.Pairwise (fun a b=>lt a b=true∨lt b a=true):=hp.symm.pairwise hc (fun h=>h.symm);refine pair_ext irr tr ?_ (Qx tr hc) (fun x=>?_)
 ·refine Vs ?_ (hs.and hm);rintro a - b - ⟨h1,h2⟩
  rcases h2 with h|h
  ·exact h
  rw[h1]at h;cases h
 rw[Qz];exact hp.mem_iff
end

def ltL(a b:Zk):Bool:=decide (Yj a b<0)
def ltT(a b:Tal):Bool:=decide (Yr a b<0)
theorem Ql{a b:Zk}:ltL a b=true↔Jd a b:=by unfold ltL;rw[decide_eq_true_iff,Jw]
theorem Oy{a b:Tal}:ltT a b=true↔Jb a b:=by unfold ltT;rw[decide_eq_true_iff,Qq]
theorem ltL_irr(a:Zk):ltL a a=false:=by
 rw[←Bool.not_eq_true,Ql];exact Uj a
theorem ltT_irr(a:Tal):ltT a a=false:=by
 rw[←Bool.not_eq_true,Oy];unfold Jb;omega
theorem ltL_tr(x y z:Zk)(h:ltL x y=true)(h':ltL y z=true):ltL x z=true:=Ql.2 (Je (Ql.1 h) (Ql.1 h'))
theorem ltT_tr(x y z:Tal)(h:ltT x y=true)(h':ltT y z=true):ltT x z=true:=by
 rw[Oy]at*;unfold Jb at*;omega

def hasL(lv:List Zk)(x:Zk):Bool:=lv.any fun y=>decide (Yj y x=0)
theorem zQ{lv:List Zk}{x:Zk}:hasL lv x=true↔x ∈ lv:=by
 unfold hasL;rw[List.any_eq_true]
 constructor
 ·rintro⟨y,hy,h⟩;rw[decide_eq_true_iff,zE]at h;subst h;exact hy
 intro h;exact⟨x,h,by rw[decide_eq_true_iff,zE]⟩
def zZ(b:StS)(x:Zk):Bool:= !Vy b.clock x.author x.seq||hasL b.lives x
def comeB(a:StS)(x:Zk):Bool:= !Vy a.clock x.author x.seq
def Jn(a b:StS)(i:Int):Bool:=decide (a.clock.getD i.toNat 0<b.clock.getD i.toNat 0)
def zK(a b:StS):List Zk:=a.lives.filter (zZ b)++b.lives.filter (comeB a)
def zJ(a b:StS):List Tal:=a.tals.filter (fun t=> !Jn a b t.author)++b.tals.filter (fun t=>Jn a b t.author)
def xA(a b:StS):Int:=if stE a a.clock.length≠0 then stE a a.clock.length else stE b a.clock.length
def joinX(a b:StS):StS:=if xA a b=0 then⟨joinC a.clock b.clock,Xr ltL (zK a b),Xr ltT (zJ a b)⟩else⟨[],[],[]⟩
theorem joinE_zero{a b:StS}:xA a b=0↔OkS a.clock.length a.clock a.lives a.tals∧OkS a.clock.length b.clock b.lives b.tals:=by
 unfold xA
 by_cases h:stE a a.clock.length=0
 ·rw[if_neg (by simpa using h),Qw];exact⟨fun h2=>⟨Qw.1 h,h2⟩,fun h2=>h2.2⟩
 rw[if_pos h];exact⟨fun h2=>absurd h2 h,fun h2=>absurd (Qw.2 h2.1) h⟩
theorem joinX_zero{a b:StS}(h:xA a b=0):joinX a b=⟨joinC a.clock b.clock,Xr ltL (zK a b),Xr ltT (zJ a b)⟩:=by unfold joinX;rw[if_pos h]
theorem joinX_bad{a b:StS}(h:¬xA a b=0):joinX a b=⟨[],[],[]⟩:=by unfold joinX;rw[if_neg h]
section
variable {n:Int}{a b:StS}
theorem has_own(ha:OkS n a.clock a.lives a.tals){x:Zk}(hx:x ∈ a.lives):Vy a.clock x.author x.seq=true:=by
 unfold Vy;rw[decide_eq_true_iff];exact ha.bound x hx
theorem has_other(ha:OkS n a.clock a.lives a.tals)(hb:OkS n b.clock b.lives b.tals){x:Zk}(hx:x ∈ a.lives):Vy b.clock x.author x.seq=true↔x.seq≤b.clock.getD x.author.toNat 0:=by
 unfold Vy;rw[decide_eq_true_iff];obtain⟨h1,h2,h3⟩:=ha.bound x hx;have g1:=(Zm.1 ha.clock).2.2.1;have g2:=(Zm.1 hb.clock).2.2.1;exact⟨fun h=>h.2.2,fun h=>⟨h1,by omega,h⟩⟩
theorem rawL_pair(ha:OkS n a.clock a.lives a.tals)(hb:OkS n b.clock b.lives b.tals):(zK a b).Pairwise fun x y=>ltL x y=true∨ltL y x=true:=by
 unfold zK;rw[List.pairwise_append];refine⟨Vs (fun _ _ _ _ h=>.inl (Ql.2 h)) (List.Pairwise.filter _ ha.order),Vs (fun _ _ _ _ h=>.inl (Ql.2 h)) (List.Pairwise.filter _ hb.order),fun x hx y hy=>?_⟩;obtain⟨hx1,-⟩:=List.mem_filter.1 hx;obtain⟨-,hy2⟩:=List.mem_filter.1 hy
 rcases yJ x y with h|h|h
 ·exact .inl (Ql.2 h)
 ·subst h;unfold comeB at hy2;rw[has_own ha hx1]at hy2
  cases hy2
 exact .inr (Ql.2 h)
theorem rawT_pair(ha:OkS n a.clock a.lives a.tals)(hb:OkS n b.clock b.lives b.tals):(zJ a b).Pairwise fun x y=>ltT x y=true∨ltT y x=true:=by
 unfold zJ;rw[List.pairwise_append];refine⟨Vs (fun _ _ _ _ h=>.inl (Oy.2 h)) (List.Pairwise.filter _ ha.ord),Vs (fun _ _ _ _ h=>.inl (Oy.2 h)) (List.Pairwise.filter _ hb.ord),fun x hx y hy=>?_⟩;obtain⟨-,hx2⟩:=List.mem_filter.1 hx;obtain⟨-,hy2⟩:=List.mem_filter.1 hy
 by_cases he:x.author=y.author
 ·rw[he,hy2]at hx2
  cases hx2
 rw[Oy,Oy];unfold Jb;omega
theorem mem_rawL(ha:OkS n a.clock a.lives a.tals)(hb:OkS n b.clock b.lives b.tals)(x:Zk):x ∈ zK a b↔
  (x ∈ a.lives∧x ∈ b.lives)∨(x ∈ a.lives∧¬x.seq≤b.clock.getD x.author.toNat 0)∨(x ∈ b.lives∧¬x.seq≤a.clock.getD x.author.toNat 0):=by
 unfold zK;rw[List.mem_append,List.mem_filter,List.mem_filter];unfold zZ comeB
 constructor
 ·rintro(⟨h1,h2⟩|⟨h1,h2⟩)
  ·rw[Bool.or_eq_true,zQ,Bool.not_eq_true',←Bool.not_eq_true,has_other ha hb h1]at h2
   rcases h2 with h2|h2
   ·exact .inr (.inl ⟨h1,h2⟩)
   exact .inl ⟨h1,h2⟩
  rw[Bool.not_eq_true',←Bool.not_eq_true,has_other hb ha h1]at h2;exact .inr (.inr ⟨h1,h2⟩)
 rintro(⟨h1,h2⟩|⟨h1,h2⟩|⟨h1,h2⟩)
 ·exact .inl ⟨h1,by rw[Bool.or_eq_true,zQ];exact .inr h2⟩
 ·exact .inl ⟨h1,by rw[Bool.or_eq_true,Bool.not_eq_true',←Bool.not_eq_true,has_other ha hb h1];exact .inl h2⟩
 exact .inr ⟨h1,by rw[Bool.not_eq_true',←Bool.not_eq_true,has_other hb ha h1];exact h2⟩
theorem mem_rawT{t:Tal}:t ∈ zJ a b↔(t ∈ a.tals∧¬a.clock.getD t.author.toNat 0<b.clock.getD t.author.toNat 0)∨(t ∈ b.tals∧a.clock.getD t.author.toNat 0<b.clock.getD t.author.toNat 0):=by
 unfold zJ Jn;rw[List.mem_append,List.mem_filter,List.mem_filter]
 simp
end

section
variable {n:Int}{a b:List Int}{l:List Upd}
end
end Go.Proofs.YtfhecilhcofboaaGreat
/- state.Start for whatever number of authors; rows of zeros; small logs in one block. -/
namespace Go.Proofs.YtfhecilhcofboaaGreat
open Go.RowKit

theorem made_zero:∀k,k≤6→madeCells #[.int .i64 0] k=((zeroC k).map (Value.int .i64)).toArray
 |0,_=>by kernel_rfl
 |1,_=>by kernel_rfl
 |2,_=>by kernel_rfl
 |3,_=>by kernel_rfl
 |4,_=>by kernel_rfl
 |5,_=>by kernel_rfl
 |6,_=>by kernel_rfl
 |k+7,h=>by omega
theorem zeroC_length(k:Nat):(zeroC k).length=k:=by simp[zeroC]
theorem run_make_clock{k:Nat}(hk:k≤6)(w:World):(Instr.makeSlice 23 (.int .i64 k) (.int .i64 k)).run Tryz.prog w=.ok (.slice (some ⟨w.heap.size,0,none⟩) k k) (w.alloc (.cells (madeCells #[.int .i64 0] k) 3)):=
 run_make_row' 23 3 (.int .i64 0) 8 Tryz.underlying23 Tryz.infoInt rfl .i64 .i64 k (by omega) (by omega) w
theorem own_zero(w:World)(B:Nat){k:Nat}(hk:k≤6)(hB:B≤w.heap.size):Own (w.alloc (.cells (madeCells #[.int .i64 0] k) 3)) B (.slice (some ⟨w.heap.size,0,none⟩) k k) (zeroC k):=by
 have hn:=heap_alloc_new w (.cells (madeCells #[.int .i64 0] k) 3);have h:=own_of_block (w:=w.alloc (.cells (madeCells #[.int .i64 0] k) 3)) (B:=B) (g:=w.heap.size) (xs:=zeroC k) (by rw[hn,made_zero k hk]) hB (by rw[zeroC_length];unfold maxLen;omega);rw[zeroC_length]at h;exact h
set_option maxRecDepth 100000 in
set_option maxHeartbeats 1000000 in
theorem start_any{k:Nat}(hk:k≤6)(w:World):Calls Tryz.prog 22 #[.int .i64 k] w fun e w'=>∃v,e=.returned v∧Yl w' w.heap.size v ⟨zeroC k,[],[]⟩∧Below w.heap.size w w':=by
 have hmk:=fun w:World=>run_make_clock hk w;obtain⟨cs,HCS⟩:∃cs,Hid (madeCells #[.int .i64 0] k=cs):=⟨_,rfl⟩;rw[HCS.out]at hmk
 go_enter Tryz.func22,Tryz.ntmps22
 go_wp2_with fail
 have hR:=(Box.new w [.slice (some ⟨w.heap.size+1,0,none⟩) k k,.slice none 0 0,.slice none 0 0] 27).plus (.cells cs 3);refine bodyPost_ret (results_cell_row rfl _ _ w.heap.size 27 _ (0,0) _ rfl hR Tryz.underlying27 rfl Tryz.sizeState) rfl ⟨_,rfl,?_,Below.plus (bpl w _) _⟩;refine⟨_,_,_,rfl,?_,World.ownsRow_nil _ _ _ _,World.ownsRow_nil _ _ _ _⟩;have:=own_zero (w.alloc (.cells #[.slice (some ⟨w.heap.size+1,0,none⟩) k k,.slice none 0 0,.slice none 0 0] 27)) w.heap.size hk (by simp);rw[HCS.out,World.size_alloc]at this;exact this
theorem same_yesW(v u:Value)(xs:List Int)(w:World)(h:Row w v xs)(hu:Row w u xs):
  Calls Tryz.prog 25 #[v,u] w fun e w'=>e=.returned (.bool true)∧Below w.heap.size w w':=by
 have:=same_ref v u xs xs w h hu;rw[decide_eq_true rfl]at this;exact this
theorem Yl.formW{w:World}{B:Nat}{v:Value}{s:StS}(h:Yl w B v s):∃a1 c1 a2 c2 a3 c3,v=.agg #[.slice a1 s.clock.length c1,.slice a2 s.lives.length c2,.slice a3 s.tals.length c3]:=by
 obtain⟨cv,lv,tv,h1,h2,h3,h4⟩:=h;obtain⟨a1,c1,rfl,-⟩:=h2.row;obtain⟨a2,c2,rfl,-⟩:=Zl Ze h3;obtain⟨a3,c3,rfl,-⟩:=Zl Zg h4;exact⟨a1,c1,a2,c2,a3,c3,h1⟩
theorem clockE_iff{xs:List Int}{l:List Upd}{n:Int}:Xb xs l n=0↔Zn xs n=0∧l.length≤300∧Xf n xs l=0:=by
 unfold Xb
 by_cases h1:Zn xs n=0
 ·rw[if_neg (by simpa using h1)]
  by_cases h2:300<l.length
  ·rw[if_pos h2];omega
  rw[if_neg h2]
  constructor
  ·exact fun h=>⟨h1,by omega,h⟩
  exact fun h=>h.2.2
 rw[if_pos h1]
 simp[h1]
theorem playE_iff{s:StS}{l:List Upd}:Ol s l=0↔OkS s.clock.length s.clock s.lives s.tals∧l.length≤300∧Xf s.clock.length s.clock l=0:=by
 unfold Ol
 by_cases h1:stE s s.clock.length=0
 ·rw[if_neg (by simpa using h1),clockE_iff];have hok:=Qw.1 h1
  constructor
  ·exact fun h=>⟨hok,h.2.1,h.2.2⟩
  exact fun h=>⟨hok.clock,h.2.1,h.2.2⟩
 rw[if_pos h1]
 constructor
 ·exact fun h=>absurd h h1
 exact fun h=>absurd (Qw.2 h.1) h1
theorem errL_each{n:Int}:∀(l:List Upd) {c:List Int},Xf n c l=0→∀u ∈ l,Zz u n=0
 |[],_,_,u,hu=>by simp at hu
 |x::r,c,h,u,hu=>by
  obtain⟨h1,h2⟩:=Vc h
  rcases List.mem_cons.1 hu with rfl|hu
  ·unfold Yz at h1
   split at h1
   ·next hw=>exact hw
   exact h1
  exact errL_each r h2 u hu
end Go.Proofs.YtfhecilhcofboaaGreat
