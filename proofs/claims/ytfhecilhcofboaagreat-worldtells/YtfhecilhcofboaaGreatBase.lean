/- A slice value that reads as a list of numbers in a world, and how that reading is carried from one world to a later one. -/
import Derived.Test.YtfhecilhcofboaaGreatRows
import Derived.WalkKit
import Derived.WalkSpells
import Derived.WalkLawsBesides
import Derived.Deep.QuietTactic
import Derived.BigQuiet
import Derived.Laws.CopyOwn
import Derived.Laws.AppendOwnNone
import Derived.Outline
namespace Go.Proofs.YtfhecilhcofboaaGreat
theorem Zt{α:Type _}(l:List α)(i:Nat)(a:α):l.toArray.setIfInBounds i a=(l.set i a).toArray:=List.setIfInBounds_toArray l i a
theorem Zs{α:Type _}{x:α}{xs:List α}{a:α}:(x::xs).set 0 a=a::xs:=rfl
theorem Zr{α:Type _}{x:α}{xs:List α}{n:Nat}{a:α}:(x::xs).set (n+1) a=x::xs.set n a:=rfl
theorem nlr(n:Nat):n≤n:=Nat.le_refl n
open Go.RowKit

def Row(w:World)(v:Value)(xs:List Int):Prop:=
 ∃(a:Option Addr) (cap:Nat),v=.slice a xs.length cap∧xs.length≤cap∧cap≤maxLen∧
  ∀i,i<xs.length→∃b off,a=some ⟨b,off,none⟩∧w.cell? ⟨b,off+i,none⟩=some (.int .i64 (xs.getD i 0))

theorem Row.below{w w':World}{v:Value}{xs:List Int}(h:Row w v xs){B:Nat}(hb:Below B w w')(hB:w.heap.size≤B):Row w' v xs:=by
 obtain⟨a,cap,h1,h2,h3,h4⟩:=h;refine⟨a,cap,h1,h2,h3,fun i hi=>?_⟩;obtain⟨b,off,h5,h6⟩:=h4 i hi;refine⟨b,off,h5,?_⟩;have:=World.block_lt_of_cell? w _ h6;rw[hb.cell (p:=⟨b,off+i,none⟩) (Nat.lt_of_lt_of_le this hB)];exact h6

theorem Row.len_le{w:World}{v:Value}{xs:List Int}(h:Row w v xs):xs.length≤9223372036854775807:=by
 obtain⟨a,cap,h1,h2,h3,h4⟩:=h;unfold maxLen at h3;omega

theorem Za{p:Prop}(h:p):Hid p:=h
theorem Ui{xs:List Int}{k:Nat}(h:k<xs.length):xs.getD k 0=xs[k]:=by simp[List.getD,h]
theorem Xq{k:IntKind}{a b:Int}(h:a=b):Ending.returned (.int k a)=.returned (.int k b):=by rw[h]
theorem Jl{a b:Bool}(h:a=b):Ending.returned (.bool a)=.returned (.bool b):=by rw[h]

def Own(w:World)(B:Nat)(v:Value)(xs:List Int):Prop:=w.ownsRow B 3 1 v xs.length (xs.map (Value.int .i64))

theorem Own.row{w:World}{B:Nat}{v:Value}{xs:List Int}(h:Own w B v xs):Row w v xs:=by
 unfold Own at h
 rcases h.2 with⟨h1,h2⟩|⟨g,cap,cur,hv,hg,hh,h1,h2,h3,h4⟩
 ·refine⟨none,0,by rw[h1,h2],by omega,by unfold maxLen;omega,fun i hi=>by omega⟩
 subst hv;refine⟨some ⟨g,0,none⟩,cap,rfl,h1,h2,fun i hi=>⟨g,0,rfl,?_⟩⟩;rw[Nat.zero_add,h.cellAt i (by omega)]
 simp[List.getD,hi]

theorem Own.below{w w':World}{B C:Nat}{v:Value}{xs:List Int}(h:Own w B v xs)(hb:Below C w w')(hC:w.heap.size≤C):Own w' B v xs:=by
 refine⟨h.1,?_⟩
 rcases h.2 with h1|⟨g,cap,cur,hv,hg,hh,r⟩
 ·exact Or.inl h1
 exact Or.inr ⟨g,cap,cur,hv,hg,by rw[hb.block g (Nat.lt_of_lt_of_le (lt_of_block hh) hC)];exact hh,r⟩

theorem Own.mono{w:World}{B C:Nat}{v:Value}{xs:List Int}(h:Own w B v xs)(hB:C≤B):Own w C v xs:=by
 refine⟨h.1,?_⟩
 rcases h.2 with h1|⟨g,cap,cur,hv,hg,r⟩
 ·exact Or.inl h1
 exact Or.inr ⟨g,cap,cur,hv,Nat.le_trans hB hg,r⟩

theorem own_block{w:World}{B g n:Nat}{e:TypeId}{L:List Value}(h:w.ownsRow B e 1 (.slice (some ⟨g,0,none⟩) n n) n L):w.heap[g]? =some (.cells L.toArray e (0,0))∧B≤g∧L.length=n:=by
 obtain⟨h1,h2⟩:=h
 rcases h2 with⟨h3,_⟩|⟨g',cap,cur,hv,hg,hh,_,_,h5,h6⟩
 ·cases h3
 simp only[Value.slice.injEq,Option.some.injEq,Addr.mk.injEq,and_true,true_and]at hv;obtain⟨rfl,rfl⟩:=hv;refine⟨?_,hg,by omega⟩;rw[List.take_of_length_le (by rw[Array.length_toList];omega)]at h6;rw[hh,←h6]
theorem own_of_block{w:World}{B g:Nat}{xs:List Int}(h:w.heap[g]? =some (.cells (xs.map (Value.int .i64)).toArray 3 (0,0)))(hg:B≤g)(hm:xs.length≤maxLen):Own w B (.slice (some ⟨g,0,none⟩) xs.length xs.length) xs:=
 ⟨by simp,.inr ⟨g,xs.length,_,rfl,hg,h,nlr _,hm,by simp,List.take_of_length_le (by simp)⟩⟩

theorem Row.cells{w:World}{a:Option Addr}{n c:Nat}{xs:List Int}(h:Row w (.slice a n c) xs):n=xs.length∧xs.length≤c∧c≤maxLen∧(0<xs.length→∃ad,a=some ad∧∀j u,(xs.map (Value.int .i64))[j]? =some u→w.cell? (ad.add j)=some u):=by
 obtain⟨a',c',h1,h2,h3,h4⟩:=h;simp only[Value.slice.injEq]at h1;obtain⟨rfl,rfl,rfl⟩:=h1;refine⟨rfl,h2,h3,fun hp=>?_⟩;obtain⟨b,off,h5,_⟩:=h4 0 hp;refine⟨_,h5,fun j u hj=>?_⟩;simp only[List.getElem?_map,Option.map_eq_some_iff]at hj;obtain⟨x,hx,rfl⟩:=hj
 have hlt:j<xs.length:=by
  rcases Nat.lt_or_ge j xs.length with g|g
  ·exact g
  rw[List.getElem?_eq_none g]at hx;cases hx
 obtain⟨b',off',h6,h7⟩:=h4 j hlt;rw[h5]at h6;simp only[Option.some.injEq,Addr.mk.injEq,and_true]at h6;obtain⟨rfl,rfl⟩:=h6
 have ha:(⟨b,off,none⟩:Addr).add j=⟨b,off+j,none⟩:=by
  simp only[Addr.add]
  split
  ·next e=>rw[e];rfl
  rfl
 rw[ha,h7,Ui hlt];rw[List.getElem?_eq_getElem hlt]at hx;simp only[Option.some.injEq]at hx;rw[hx]

theorem Tryz.infoInt:(Tryz.prog.info? 3).map (fun i=>(i.zero,i.size,i.bytes))=some (some (.int .i64 0),1,8):=by kernel_rfl
theorem Tryz.sizeInt:(Tryz.prog.info? 3).map (·.size)=some 1:=by kernel_rfl

theorem Row.alloc{w:World}{v:Value}{xs:List Int}(h:Row w v xs)(o:Obj):Row (w.alloc o) v xs:=h.below ((Below.refl w.heap.size _).alloc (nlr _) o) (nlr _)
theorem Zb{w W w1:World}(h:Below w.heap.size w W)(hb:Below W.heap.size W w1):Below w.heap.size w w1:=h.trans (hb.mono h.size)
theorem Below.plus{w W:World}(h:Below w.heap.size w W)(o:Obj):Below w.heap.size w (W.alloc o):=h.alloc h.size o
theorem bpl(w:World)(o:Obj):Below w.heap.size w (w.alloc o):=Below.plus (Below.refl _ _) o

def Box(w:World)(g:Nat)(cs:List Value)(t:TypeId):Prop:=w.heap[g]? =some (.cells cs.toArray t (0,0))
theorem Box.new(w:World)(cs:List Value)(t:TypeId):Box (w.alloc (.cells cs.toArray t)) w.heap.size cs t:=heap_alloc_new w _
theorem Box.below{w w':World}{g:Nat}{cs:List Value}{t:TypeId}(h:Box w g cs t){B:Nat}(hb:Below B w w')(hB:w.heap.size≤B):Box w' g cs t:=by
 unfold Box at h ⊢;rw[hb.block g (Nat.lt_of_lt_of_le (lt_of_block h) hB)];exact h
theorem Box.get{w:World}{g:Nat}{cs:List Value}{t:TypeId}(h:Box w g cs t)(i:Nat){v:Value}(hv:cs[i]? =some v):w.cell? ⟨g,i,none⟩=some v:=by
 unfold Box at h
 simp[World.cell?,h,hv]
theorem Box.c2{w:World}{g:Nat}{x0 x1:Value}{r:List Value}{t:TypeId}(h:Box w g (x0::x1::r) t):w.cell? ⟨g,0,none⟩=some x0∧w.cell? ⟨g,1,none⟩=some x1:=⟨h.get 0 rfl,h.get 1 rfl⟩
theorem Box.c3{w:World}{g:Nat}{x0 x1 x2:Value}{r:List Value}{t:TypeId}(h:Box w g (x0::x1::x2::r) t):w.cell? ⟨g,0,none⟩=some x0∧w.cell? ⟨g,1,none⟩=some x1∧w.cell? ⟨g,2,none⟩=some x2:=⟨h.get 0 rfl,h.get 1 rfl,h.get 2 rfl⟩
theorem Box.c4{w:World}{g:Nat}{x0 x1 x2 x3:Value}{r:List Value}{t:TypeId}(h:Box w g (x0::x1::x2::x3::r) t):w.cell? ⟨g,0,none⟩=some x0∧w.cell? ⟨g,1,none⟩=some x1∧w.cell? ⟨g,2,none⟩=some x2∧w.cell? ⟨g,3,none⟩=some x3:=⟨h.get 0 rfl,h.get 1 rfl,h.get 2 rfl,h.get 3 rfl⟩
theorem Box.c5{w:World}{g:Nat}{x0 x1 x2 x3 x4:Value}{r:List Value}{t:TypeId}(h:Box w g (x0::x1::x2::x3::x4::r) t):w.cell? ⟨g,0,none⟩=some x0∧w.cell? ⟨g,1,none⟩=some x1∧w.cell? ⟨g,2,none⟩=some x2∧w.cell? ⟨g,3,none⟩=some x3∧w.cell? ⟨g,4,none⟩=some x4:=⟨h.get 0 rfl,h.get 1 rfl,h.get 2 rfl,h.get 3 rfl,h.get 4 rfl⟩
theorem Box.c6{w:World}{g:Nat}{x0 x1 x2 x3 x4 x5:Value}{r:List Value}{t:TypeId}(h:Box w g (x0::x1::x2::x3::x4::x5::r) t):w.cell? ⟨g,0,none⟩=some x0∧w.cell? ⟨g,1,none⟩=some x1∧w.cell? ⟨g,2,none⟩=some x2∧w.cell? ⟨g,3,none⟩=some x3∧w.cell? ⟨g,4,none⟩=some x4∧w.cell? ⟨g,5,none⟩=some x5:=⟨h.get 0 rfl,h.get 1 rfl,h.get 2 rfl,h.get 3 rfl,h.get 4 rfl,h.get 5 rfl⟩
theorem Box.c7{w:World}{g:Nat}{x0 x1 x2 x3 x4 x5 x6:Value}{r:List Value}{t:TypeId}(h:Box w g (x0::x1::x2::x3::x4::x5::x6::r) t):w.cell? ⟨g,0,none⟩=some x0∧w.cell? ⟨g,1,none⟩=some x1∧w.cell? ⟨g,2,none⟩=some x2∧w.cell? ⟨g,3,none⟩=some x3∧w.cell? ⟨g,4,none⟩=some x4∧w.cell? ⟨g,5,none⟩=some x5∧w.cell? ⟨g,6,none⟩=some x6:=⟨h.get 0 rfl,h.get 1 rfl,h.get 2 rfl,h.get 3 rfl,h.get 4 rfl,h.get 5 rfl,h.get 6 rfl⟩
theorem Box.free{w:World}{g:Nat}{cs:List Value}{t:TypeId}(h:Box w g cs t)(i:Nat):w.frozen? ⟨g,i,none⟩=false:=by
 unfold Box at h
 simp[World.frozen?,h]
theorem Box.lt{w:World}{g:Nat}{cs:List Value}{t:TypeId}(h:Box w g cs t):g<w.heap.size:=lt_of_block h

end Go.Proofs.YtfhecilhcofboaaGreat
