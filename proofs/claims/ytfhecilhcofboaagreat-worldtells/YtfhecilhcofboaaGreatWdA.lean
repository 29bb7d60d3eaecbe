/- Worlds in memory: what a change of blocks of some types leaves as it was; parcels on their way; a world that goes on. -/
import Derived.Test.YtfhecilhcofboaaGreatNdC
import Derived.Test.YtfhecilhcofboaaGreatWdPure
import Derived.Test.YtfhecilhcofboaaGreatNdX
import Derived.Test.YtfhecilhcofboaaGreatNdI
namespace Go.Proofs.YtfhecilhcofboaaGreat
open Go.RowKit

def Keeps(S:List TypeId)(w w':World):Prop:=∀(k:Nat) (cur:Array Value) (e:TypeId),w.heap[k]? =some (Obj.cells cur e (0,0))→e ∉ S→w'.heap[k]? =some (Obj.cells cur e (0,0))
theorem Keeps.refl(S:List TypeId)(w:World):Keeps S w w:=fun _ _ _ h _=>h
theorem Keeps.trans{S:List TypeId}{w w1 w2:World}(h:Keeps S w w1)(h':Keeps S w1 w2):Keeps S w w2:=fun k cur e hh he=>h' k cur e (h k cur e hh he) he
theorem Keeps.more{S S':List TypeId}{w w':World}(h:Keeps S w w')(hs:∀e ∈ S,e ∈ S'):Keeps S' w w':=fun k cur e hh he=>h k cur e hh fun hm=>he (hs e hm)
theorem Keeps.below{S:List TypeId}{w w':World}(hb:Below w.heap.size w w'):Keeps S w w':=fun k cur e hh _=>by
 have hk:k<w.heap.size:=lt_of_block hh;rw[hb.block k hk];exact hh
theorem Yt{w:World}{g:Nat}{cs:List Value}{t:TypeId}(hb:Box w g cs t)(i:Nat)(x:Value):Keeps [t] w (w.setCell ⟨g,i,none⟩ x):=by
 intro k cur e hh he
 have hne:g≠k:=by
  intro hg;subst hg;unfold Box at hb;rw[hb]at hh;simp only[Option.some.injEq,Obj.cells.injEq]at hh;exact he (by rw[hh.2.1];simp)
 rw[heap_setCell_other w ⟨g,i,none⟩ k x (fun h=>hne h.symm)];exact hh
theorem keeps_grown{w w':World}{g:Nat}{cur0:Array Value}{t:TypeId}(hb:w.heap[g]? =some (.cells cur0 t (0,0)))(hg:w.grownBy w' (some g)):Keeps [t] w w':=by
 intro k cur e hh he
 have hne:some k≠some g:=by
  intro hk;simp only[Option.some.injEq]at hk;subst hk;rw[hb]at hh;simp only[Option.some.injEq,Obj.cells.injEq]at hh;exact he (by rw[hh.2.1];simp)
 rw[hg.block k (lt_of_block hh) hne];exact hh
theorem keeps_grown0{S:List TypeId}{w w':World}(hg:w.grownBy w' none):Keeps S w w':=by
 intro k cur e hh he;rw[hg.block k (lt_of_block hh) (by simp)];exact hh
section
variable {S:List TypeId}{w w':World}{B:Nat}
theorem Keeps.row(hk:Keeps S w w'){e:TypeId}{sz n:Nat}{v:Value}{xs:List Value}(h:w.ownsRow B e sz v n xs)(he:e ∉ S):w'.ownsRow B e sz v n xs:=by
 obtain⟨h1,h2⟩:=h;refine⟨h1,?_⟩
 rcases h2 with h2|⟨g,cap,cur,a1,a2,a3,a4⟩
 ·exact .inl h2
 exact .inr ⟨g,cap,cur,a1,a2,hk g cur e a3 he,a4⟩
theorem Keeps.box(hk:Keeps S w w'){g:Nat}{cs:List Value}{t:TypeId}(h:Box w g cs t)(ht:t ∉ S):Box w' g cs t:=hk g _ _ h ht
structure Far (S:List TypeId):Prop where
 i:3 ∉ S
 l:106 ∉ S
 t:108 ∉ S
 u:33 ∉ S
 c:23 ∉ S
theorem Keeps.own(hk:Keeps S w w')(hf:Far S){v:Value}{xs:List Int}(h:Own w B v xs):Own w' B v xs:=hk.row h hf.i
theorem Keeps.st(hk:Keeps S w w')(hf:Far S){v:Value}{s:StS}(h:Yl w B v s):Yl w' B v s:=by
 obtain⟨cv,lv,tv,h1,h2,h3,h4⟩:=h;exact⟨cv,lv,tv,h1,hk.own hf h2,hk.row h3 hf.l,hk.row h4 hf.t⟩
theorem Keeps.log(hk:Keeps S w w')(hf:Far S){v:Value}{l:List Upd}(h:Xx w B v l):Xx w' B v l:=by
 obtain⟨ps,⟨h1,h2⟩,h3⟩:=h;exact⟨ps,⟨hk.row h1 hf.u,fun p hp=>hk.own hf (h2 p hp)⟩,h3⟩
theorem Keeps.kn(hk:Keeps S w w')(hf:Far S){v:Value}{l:List (List Int)}(h:Uf w B v l):Uf w' B v l:=by
 obtain⟨ps,⟨h1,h2⟩,h3⟩:=h;exact⟨ps,⟨hk.row h1 hf.c,fun p hp=>hk.own hf (h2 p hp)⟩,h3⟩
theorem Keeps.node(hk:Keeps S w w')(hf:Far S){v:Value}{d:NdS}(h:Yo w B v d):Yo w' B v d:=by
 obtain⟨cv,lv,tv,bv,uv,kv,h1,h2,h3,h4,h5⟩:=h;exact⟨cv,lv,tv,bv,uv,kv,h1,hk.st hf h2,hk.own hf h3,hk.log hf h4,hk.kn hf h5⟩
theorem Keeps.pcl(hk:Keeps S w w')(hf:Far S){v:Value}{p:Pcl}(h:Uq w B v p):Uq w' B v p:=by
 obtain⟨cv,lv,tv,uv,kv,h1,h2,h3,h4⟩:=h;exact⟨cv,lv,tv,uv,kv,h1,hk.st hf h2,hk.log hf h3,hk.own hf h4⟩
end

def zW(w:World)(B:Nat)(e:TypeId)(sz:Nat)(v:Value)(n:Nat)(xs:List Value):Prop:=
 xs.length=n*sz∧((∃a,v=.slice a 0 0∧n=0)∨∃g o cap cur,v=.slice (some ⟨g,o*sz,none⟩) n (cap+1)∧B≤g∧w.heap[g]? =some (.cells cur e (0,0))∧n≤cap+1∧cap+1≤maxLen∧cur.size=(o+(cap+1))*sz∧(cur.toList.drop (o*sz)).take (n*sz)=xs)
def Zx:Value→Option Nat
 | .slice (some a) _ (_+1)=>some a.block
 |_=>none
theorem zW.kept{S:List TypeId}{w w':World}{B:Nat}{e:TypeId}{sz n:Nat}{v:Value}{xs:List Value}(h:zW w B e sz v n xs)(hk:Keeps S w w')(he:e ∉ S):zW w' B e sz v n xs:=by
 obtain⟨h1,h2⟩:=h;refine⟨h1,?_⟩
 rcases h2 with h2|⟨g,o,cap,cur,a1,a2,a3,a4⟩
 ·exact .inl h2
 exact .inr ⟨g,o,cap,cur,a1,a2,hk g cur e a3 he,a4⟩
theorem zW.grown{w w':World}{B:Nat}{e:TypeId}{sz n:Nat}{v:Value}{xs:List Value}{r:Option Nat}(h:zW w B e sz v n xs)(hg:w.grownBy w' r)(hne:∀k,Zx v=some k→r≠some k):zW w' B e sz v n xs:=by
 obtain⟨h1,h2⟩:=h;refine⟨h1,?_⟩
 rcases h2 with h2|⟨g,o,cap,cur,a1,a2,a3,a4⟩
 ·exact .inl h2
 refine .inr ⟨g,o,cap,cur,a1,a2,?_,a4⟩;rw[hg.block g (lt_of_block a3) (fun hh=>hne g (by rw[a1];rfl) hh.symm)];exact a3
theorem zW.base{w:World}{B C:Nat}{e:TypeId}{sz n:Nat}{v:Value}{xs:List Value}(h:zW w B e sz v n xs)(hB:C≤B):zW w C e sz v n xs:=by
 obtain⟨h1,h2⟩:=h;refine⟨h1,?_⟩
 rcases h2 with h2|⟨g,o,cap,cur,a1,a2,a3,a4⟩
 ·exact .inl h2
 exact .inr ⟨g,o,cap,cur,a1,Nat.le_trans hB a2,a3,a4⟩
theorem zW.lt{w:World}{B:Nat}{e:TypeId}{sz n:Nat}{v:Value}{xs:List Value}(h:zW w B e sz v n xs){k:Nat}(hk:Zx v=some k):B≤k∧k<w.heap.size∧∃cur,w.heap[k]? =some (.cells cur e (0,0)):=by
 rcases h.2 with⟨a,rfl,-⟩|⟨g,o,cap,cur,rfl,a2,a3,-⟩
 ·cases a <;> simp[Zx]at hk
 simp only[Zx,Option.some.injEq]at hk;subst hk;exact⟨a2,lt_of_block a3,cur,a3⟩
theorem zW.form{w:World}{B:Nat}{e:TypeId}{sz n:Nat}{v:Value}{xs:List Value}(h:zW w B e sz v n xs):∃a c,v=.slice a n c:=by
 rcases h.2 with⟨a,rfl,rfl⟩|⟨g,o,cap,cur,rfl,-⟩
 ·exact⟨a,0,rfl⟩
 exact⟨_,_,rfl⟩
theorem zW.cell{w:World}{B:Nat}{e:TypeId}{sz n:Nat}{a:Option Addr}{m c:Nat}{xs:List Value}(h:zW w B e sz (.slice a m c) n xs){j:Nat}{x:Value}(hj:xs[j]? =some x):∃g o,a=some ⟨g,o,none⟩∧m=n∧w.cell? ⟨g,o+j,none⟩=some x:=by
 have hjl:j<xs.length:=(List.getElem?_eq_some_iff.1 hj).1
 rcases h.2 with⟨a',h2,h3⟩|⟨g,o,cap,cur,h2,-,h4,-,-,h5,h6⟩
 ·have:=h.1;rw[h3,Nat.zero_mul]at this;omega
 simp only[Value.slice.injEq]at h2;obtain⟨rfl,rfl,-⟩:=h2;refine⟨g,o*sz,rfl,rfl,?_⟩;rw[←h6,List.getElem?_take_of_lt (by have:=h.1;omega),List.getElem?_drop]at hj;simp only[World.cell?,h4]
 simpa using hj

theorem take_drop_mid{α:Type}(l:List α)(a b:Nat):(l.drop a).take b=(l.take (a+b)).drop a:=by
 rw[List.drop_take]
 congr 1
 omega

section
variable {P:Program}(w:World)
theorem run_append_mid(base:Nat)(t tx ty e:TypeId)(i:TypeInfo)(z:Value)(size bytes:Nat)(ht:P.underlying t=some (.slice e))(hi:P.info? e=some i)(hz:i.zero=some z)
  (hsize:i.size=size) (hby:i.bytes=bytes) (hzs:z.cells.size=size)
  (v:Value) (n:Nat) (xs:List Value) (hown:zW w base e size v n xs)
  (x:Value) (m:Nat) (news:List Value) (hs:Src P size tx x m news w) (hm:1≤m)
  (h63:n+m≤maxLen) (hbytes:(n+m)*bytes≤140737488355328) (hbase:base≤w.heap.size):
  ∃v' w',(Builtin.append_ #[t,tx] ty #[v,x]).run P w=.ok v' w'∧zW w' base e size v' (n+m) (xs++news)∧w.grownBy w' (Zx v)∧(Zx v'=Zx v∨Zx v'=some w.heap.size):=by
 subst hsize;subst hby;have hsmall:n+m≤9223372036854775807:=by simp only[maxLen]at h63;omega
 have hlen:(xs++news).length=(n+m)*i.size:=by rw[List.length_append,hown.1,hs.newsLen,Nat.add_mul]
 have grown:∀(old:Nat),old<n+m→∀(row:Option Nat),
   (zW (w.drew.alloc (.cells ((xs++news).toArray++Builtin.zeroCells z.cells (grownCap w (n+m) old e - (n+m))) e)) base e i.size
    (.slice (some ⟨w.heap.size,0,none⟩) (n+m) (grownCap w (n+m) old e)) (n+m) (xs++news)∧
   w.grownBy (w.drew.alloc (.cells ((xs++news).toArray++Builtin.zeroCells z.cells (grownCap w (n+m) old e - (n+m))) e)) row)∧Zx (.slice (some ⟨w.heap.size,0,none⟩) (n+m) (grownCap w (n+m) old e))=some w.heap.size:=by
  intro old ho row;have hge:=grownCap_ge w (n+m) old e;have hcm:grownCap w (n+m) old e≤maxLen:=grownCap_le_maxLen w (n+m) old e h63;obtain⟨c,hc⟩:∃c,grownCap w (n+m) old e=c+1:=⟨grownCap w (n+m) old e - 1,by omega⟩;refine⟨⟨⟨hlen,.inr ⟨w.heap.size,0,c,_,by rw[hc,Nat.zero_mul],hbase,heap_alloc_new w.drew _,by omega,by omega,?_,?_⟩⟩,⟨rfl,rfl,rfl,by simp,fun k hk _=>heap_alloc_old w.drew _ hk⟩⟩,by rw[hc];rfl⟩
  ·simp only[Array.size_append,List.size_toArray,size_zeroCells,hzs,hlen,←Nat.add_mul]
   congr 1
   omega
  simp only[Nat.zero_mul,List.drop_zero,Array.toList_append,←hlen];exact List.take_left
 rcases hown.2 with⟨a,rfl,rfl⟩|⟨g,o,cap,cur,rfl,hbg,hg,hnc,hcm,hcs,htake⟩
 ·have hx:xs=[]:=List.eq_nil_of_length_eq_zero (by simpa using hown.1);subst hx
  have hb0:Zx (.slice a 0 0)=none:=by cases a <;> rfl
  have hfc:(Builtin.firstCells i.size 0 (.slice a 0 0)).run P w.drew=.ok ([]:List Value).toArray w.drew:=by
   cases a with
   |none=>exact run_firstCells_none w.drew i.size 0 0 0
   |some ad=>exact run_firstCells_some w.drew i.size 0 ad 0 0 [] (by simp) (by simp)
  have hr:=run_append_grow_src (P:=P) w t tx ty e i z ht hi hz a 0 0 [] hfc x m news hs (by omega) (by omega) (growslice_fits (by omega) hbytes);obtain⟨⟨g1,g2⟩,g3⟩:=grown 0 (by omega) none;rw[hb0];exact⟨_,_,hr,g1,g2,.inr g3⟩
 by_cases hroom:n+m≤cap+1
 ·have hfit:(o+n)*i.size+news.length≤cur.size:=by
   rw[hs.newsLen,hcs,←Nat.add_mul];exact Nat.mul_le_mul_right _ (by omega)
  have hoff:o*i.size+n*i.size=(o+n)*i.size:=by rw[Nat.add_mul]
  have hr:=run_append_room_src (P:=P) w t tx ty e i ht hi g (o*i.size) n (cap+1) x m news hs hroom
   (fun j hj=>by rw[hoff,cell_of_row w g _ cur e (0,0) hg,Array.getElem?_eq_getElem (by omega)];rfl)
   (fun j hj=>frozen_of_row w g _ cur e hg)
  rw[hoff]at hr;obtain⟨⟨cur',h1,h2,h3⟩,h4⟩:=Ug g e news ((o+n)*i.size) w cur hg hfit;refine⟨_,_,hr,⟨hlen,.inr ⟨g,o,cap,cur',rfl,hbg,h1,hroom,hcm,by rw[h2,hcs],?_⟩⟩,h4,.inl rfl⟩;have h5:cur'.toList.take ((o+n)*i.size+news.length)=cur.toList.take ((o+n)*i.size)++news:=h3;have e1:(o+n)*i.size+news.length=o*i.size+(n+m)*i.size:=by rw[hs.newsLen,Nat.add_mul,Nat.add_mul,Nat.add_assoc]
  rw[take_drop_mid,←e1,h5];rw[List.drop_append_of_le_length (by rw[List.length_take,Array.length_toList,hcs];rw[Nat.add_mul,Nat.add_mul];have:=Nat.mul_le_mul_right i.size hnc;omega)]
  congr 1
  rw[show(o+n)*i.size=o*i.size+n*i.size by rw[Nat.add_mul],←take_drop_mid];exact htake
 have holds:∀j u,xs[j]? =some u→w.cell? ((⟨g,o*i.size,none⟩:Addr).add j)=some u:=by
  intro j u hj;obtain⟨g',o',h1,-,h2⟩:=hown.cell hj;simp only[Option.some.injEq,Addr.mk.injEq,and_true]at h1;obtain⟨rfl,rfl⟩:=h1;rw[addr_addL];exact h2
 have hr:=run_append_grow_src (P:=P) w t tx ty e i z ht hi hz (some ⟨g,o*i.size,none⟩) n (cap+1) xs (run_firstCells_some w.drew i.size n ⟨g,o*i.size,none⟩ n (cap+1) xs hown.1 (by simpa using holds)) x m news hs (by omega) (by omega) (growslice_fits (by omega) hbytes);obtain⟨⟨g1,g2⟩,g3⟩:=grown (cap+1) (by omega) (Zx (.slice (some ⟨g,o*i.size,none⟩) n (cap+1)));exact⟨_,_,hr,g1,g2,.inr g3⟩
end
end Go.Proofs.YtfhecilhcofboaaGreat
/- A world that goes on, in memory: its nodes, and what is on its way. -/
namespace Go.Proofs.YtfhecilhcofboaaGreat
open Go.RowKit

def PwO(w:World)(B:Nat)(v:Value)(ps:List Pcl):Prop:=
 ∃qs:List (Pcl×List Value),zW w B 35 6 v qs.length (qs.flatMap (·.2))∧qs.map (·.1)=ps∧∀q ∈ qs,∃x0 x1 x2 x3 x4 x5,q.2=[x0,x1,x2,x3,x4,x5]∧Uq w B (.agg #[x0,x1,x2,x3,x4,x5]) q.1
theorem PwO.kept{S:List TypeId}{w w':World}{B:Nat}{v:Value}{ps:List Pcl}(h:PwO w B v ps)(hk:Keeps S w w')(hf:Far S)(hp:35 ∉ S):PwO w' B v ps:=by
 obtain⟨qs,h1,h2,h3⟩:=h;refine⟨qs,h1.kept hk hp,h2,fun q hq=>?_⟩;obtain⟨x0,x1,x2,x3,x4,x5,e,h4⟩:=h3 q hq;exact⟨x0,x1,x2,x3,x4,x5,e,hk.pcl hf h4⟩
theorem PwO.grown{w w':World}{B:Nat}{v:Value}{ps:List Pcl}{r:Option Nat}(h:PwO w B v ps)(hg:w.grownBy w' r)(hne:∀k,Zx v=some k→r≠some k)(hk:Keeps [35] w w')(hf:Far [35]):PwO w' B v ps:=by
 obtain⟨qs,h1,h2,h3⟩:=h;refine⟨qs,h1.grown hg hne,h2,fun q hq=>?_⟩;obtain⟨x0,x1,x2,x3,x4,x5,e,h4⟩:=h3 q hq;exact⟨x0,x1,x2,x3,x4,x5,e,hk.pcl hf h4⟩
theorem PwO.nil(w:World)(B:Nat)(a:Option Addr):PwO w B (.slice a 0 0) []:=⟨[],⟨rfl,.inl ⟨a,rfl,rfl⟩⟩,rfl,fun q hq=>by simp at hq⟩
theorem PwO.form{w:World}{B:Nat}{v:Value}{ps:List Pcl}(h:PwO w B v ps):∃a c,v=.slice a ps.length c:=by
 obtain⟨qs,h1,rfl,h3⟩:=h;obtain⟨a,c,e⟩:=h1.form;exact⟨a,c,by rw[List.length_map];exact e⟩
theorem PwO.lt{w:World}{B:Nat}{v:Value}{ps:List Pcl}(h:PwO w B v ps){k:Nat}(hk:Zx v=some k):B≤k∧k<w.heap.size∧∃cur,w.heap[k]? =some (.cells cur 35 (0,0)):=by
 obtain⟨qs,h1,-⟩:=h;exact h1.lt hk
theorem PwO.head{w:World}{B:Nat}{v:Value}{p:Pcl}{r:List Pcl}(h:PwO w B v (p::r)):
  ∃g o c x0 x1 x2 x3 x4 x5,v=.slice (some ⟨g,o,none⟩) (r.length+1) (c+1)∧Zx v=some g∧Uq w B (.agg #[x0,x1,x2,x3,x4,x5]) p∧
   (w.cell? ⟨g,o,none⟩=some x0∧w.cell? ⟨g,o+1,none⟩=some x1∧w.cell? ⟨g,o+2,none⟩=some x2∧w.cell? ⟨g,o+3,none⟩=some x3∧w.cell? ⟨g,o+4,none⟩=some x4∧w.cell? ⟨g,o+5,none⟩=some x5)∧
   r.length≤c∧(c=0→PwO w B (.slice (some ⟨g,o,none⟩) 0 0) r)∧(1≤c→PwO w B (.slice (some ⟨g,o+6,none⟩) r.length c) r):=by
 obtain⟨qs,h1,h2,h3⟩:=h
 cases qs with
 |nil=>simp at h2
 |cons q s=>
  simp only[List.map_cons,List.cons.injEq]at h2;obtain⟨rfl,rfl⟩:=h2;obtain⟨x0,x1,x2,x3,x4,x5,e,h4⟩:=h3 q (by simp);have hlen:=h1.1
  rcases h1.2 with⟨a,-,h0⟩|⟨g,o,c,cur,rfl,hB,hg,hn,hm,hs,ht⟩
  ·simp at h0
  have hc:=fun j x (hj:((q::s).flatMap (·.2))[j]? =some x)=>h1.cell hj
  have cell:∀j x,([x0,x1,x2,x3,x4,x5]:List Value)[j]? =some x→w.cell? ⟨g,o*6+j,none⟩=some x:=by
   intro j x hj;have hj6:j<6:=(List.getElem?_eq_some_iff.1 hj).1
   obtain⟨g',o',e1,-,e2⟩:=hc j x (by
    rw[List.flatMap_cons,e,List.getElem?_append_left (by simp;exact hj6)]
    exact hj)
   simp only[Option.some.injEq,Addr.mk.injEq,and_true]at e1;obtain⟨rfl,rfl⟩:=e1;exact e2
  simp only[List.length_cons]at hn hs ht hlen;refine⟨g,o*6,c,x0,x1,x2,x3,x4,x5,by simp,rfl,h4,⟨cell 0 x0 rfl,cell 1 x1 rfl,cell 2 x2 rfl,cell 3 x3 rfl,cell 4 x4 rfl,cell 5 x5 rfl⟩,by simp;omega,fun h0=>?_,fun h0=>?_⟩
  ·have hs0:s=[]:=List.eq_nil_of_length_eq_zero (by omega);subst hs0;exact PwO.nil w B _
  refine⟨s,⟨?_,.inr ⟨g,o+1,c - 1,cur,?_,hB,hg,by omega,by omega,by rw[hs];congr 1;omega,?_⟩⟩,rfl,fun q' hq'=>h3 q' (by simp[hq'])⟩
  ·rw[List.flatMap_cons,List.length_append,e]at hlen;simp only[List.length_cons,List.length_nil]at hlen;omega
  ·rw[List.length_map,show c - 1+1=c by omega,show(o+1)*6=o*6+6 by omega]
  have h5:(cur.toList.drop (o*6)).take ((s.length+1)*6)=[x0,x1,x2,x3,x4,x5]++s.flatMap (·.2):=by rw[ht,List.flatMap_cons,e]
  have h6:=congrArg (List.drop 6) h5;rw[List.drop_take,List.drop_drop]at h6;simp only[List.cons_append,List.nil_append,List.drop_succ_cons,List.drop_zero]at h6;rw[show(o+1)*6=o*6+6 by omega,show s.length*6=(s.length+1)*6 - 6 by omega];exact h6
theorem PwO.snoc{w':World}{B:Nat}{v':Value}{ps:List Pcl}{p:Pcl}{x0 x1 x2 x3 x4 x5:Value}(qs:List (Pcl×List Value))(h2:qs.map (·.1)=ps)(h3:∀q ∈ qs,∃x0 x1 x2 x3 x4 x5,q.2=[x0,x1,x2,x3,x4,x5]∧Uq w' B (.agg #[x0,x1,x2,x3,x4,x5]) q.1)(hp:Uq w' B (.agg #[x0,x1,x2,x3,x4,x5]) p)(hm:zW w' B 35 6 v' (qs.length+1) (qs.flatMap (·.2)++[x0,x1,x2,x3,x4,x5])):PwO w' B v' (ps++[p]):=by
 refine⟨qs++[(p,[x0,x1,x2,x3,x4,x5])],by simpa using hm,by simp[h2],fun q hq=>?_⟩
 rcases List.mem_append.1 hq with hq|hq
 ·exact h3 q hq
 rw[List.mem_singleton]at hq;subst hq;exact⟨x0,x1,x2,x3,x4,x5,rfl,hp⟩

theorem flat7:∀(ns:List (List Value)) {i:Nat} {xs:List Value},(∀l ∈ ns,l.length=7)→ns[i]? =some xs→∀k,k<7→ns.flatten[i*7+k]? =xs[k]?
 |[],_,_,_,h,_,_=>by simp at h
 |l::r,0,xs,hl,h,k,hk=>by
  simp only[List.getElem?_cons_zero,Option.some.injEq]at h;subst h;rw[List.flatten_cons,List.getElem?_append_left (by rw[hl l (by simp)];omega),Nat.zero_mul,Nat.zero_add]
 |l::r,i+1,xs,hl,h,k,hk=>by
  simp only[List.getElem?_cons_succ]at h;have h7:=hl l (by simp);rw[List.flatten_cons,List.getElem?_append_right (by omega),h7,show(i+1)*7+k - 7=i*7+k by omega];exact flat7 r (fun l' hl'=>hl l' (by simp[hl'])) h k hk
theorem flat7_set:∀(ns:List (List Value)) {i:Nat} {y0 y1 y2 y3 y4 y5 y6:Value},(∀l ∈ ns,l.length=7)→i<ns.length→((((((ns.flatten.set (i*7) y0).set (i*7+1) y1).set (i*7+2) y2).set (i*7+3) y3).set (i*7+4) y4).set (i*7+5) y5).set (i*7+6) y6=(ns.set i [y0,y1,y2,y3,y4,y5,y6]).flatten
 |[],_,_,_,_,_,_,_,_,_,h=>by simp at h
 |l::r,0,y0,y1,y2,y3,y4,y5,y6,hl,_=>by
  have h7:=hl l (by simp)
  match l,h7 with
  |[a,b,c,d,e,f,g],_=>simp
 |l::r,i+1,y0,y1,y2,y3,y4,y5,y6,hl,hi=>by
  have h7:=hl l (by simp);have ih:=flat7_set r (i:=i) (y0:=y0) (y1:=y1) (y2:=y2) (y3:=y3) (y4:=y4) (y5:=y5) (y6:=y6) (fun l' hl'=>hl l' (by simp[hl'])) (by simpa using hi);rw[Zr,List.flatten_cons,List.flatten_cons,←ih]
  have hs:∀(k:Nat) (y:Value) (m:List Value),(l++m).set ((i+1)*7+k) y=l++m.set (i*7+k) y:=by
   intro k y m;rw[List.set_append_right _ _ (by omega),h7,show(i+1)*7+k - 7=i*7+k by omega]
  have h0:=hs 0;simp only[Nat.add_zero]at h0;rw[h0,hs,hs,hs,hs,hs,hs]

def zV(w:World)(B gn:Nat)(ds:List NdS):Prop:=
 ∃ns:List (List Value),Box w gn ns.flatten 31∧ns.length=ds.length∧(∀l ∈ ns,l.length=7)∧∀(i:Nat) (d:NdS),ds[i]? =some d→∃x0 x1 x2 x3 x4 x5 x6,ns[i]? =some [x0,x1,x2,x3,x4,x5,x6]∧Yo w B (.agg #[x0,x1,x2,x3,x4,x5,x6]) d
theorem zV.kept{S:List TypeId}{w w':World}{B gn:Nat}{ds:List NdS}(h:zV w B gn ds)(hk:Keeps S w w')(hf:Far S)(hn:31 ∉ S):zV w' B gn ds:=by
 obtain⟨ns,h1,h2,h3,h4⟩:=h;refine⟨ns,hk.box h1 hn,h2,h3,fun i d hd=>?_⟩;obtain⟨x0,x1,x2,x3,x4,x5,x6,e,h5⟩:=h4 i d hd;exact⟨x0,x1,x2,x3,x4,x5,x6,e,hk.node hf h5⟩
theorem zV.at{w:World}{B gn:Nat}{ds:List NdS}(h:zV w B gn ds){i:Nat}{d:NdS}(hd:ds[i]? =some d):
  ∃x0 x1 x2 x3 x4 x5 x6,Yo w B (.agg #[x0,x1,x2,x3,x4,x5,x6]) d∧w.cell? ⟨gn,i*7,none⟩=some x0∧w.cell? ⟨gn,i*7+1,none⟩=some x1∧w.cell? ⟨gn,i*7+2,none⟩=some x2∧w.cell? ⟨gn,i*7+3,none⟩=some x3∧w.cell? ⟨gn,i*7+4,none⟩=some x4∧w.cell? ⟨gn,i*7+5,none⟩=some x5∧w.cell? ⟨gn,i*7+6,none⟩=some x6:=by
 obtain⟨ns,h1,h2,h3,h4⟩:=h;obtain⟨x0,x1,x2,x3,x4,x5,x6,e,h5⟩:=h4 i d hd;have hc:=fun k hk=>flat7 ns h3 e k hk;have h0:=hc 0 (by omega);rw[Nat.add_zero]at h0;exact⟨x0,x1,x2,x3,x4,x5,x6,h5,h1.get _ (by rw[h0];rfl),h1.get _ (by rw[hc 1 (by omega)];rfl),h1.get _ (by rw[hc 2 (by omega)];rfl),h1.get _ (by rw[hc 3 (by omega)];rfl),h1.get _ (by rw[hc 4 (by omega)];rfl),h1.get _ (by rw[hc 5 (by omega)];rfl),h1.get _ (by rw[hc 6 (by omega)];rfl)⟩
theorem far_node:Far [31]:=⟨by decide,by decide,by decide,by decide,by decide⟩
theorem Ux:Far [35]:=⟨by decide,by decide,by decide,by decide,by decide⟩
theorem far_row:Far [103]:=⟨by decide,by decide,by decide,by decide,by decide⟩
theorem zV.put{w:World}{B gn:Nat}{ds:List NdS}(h:zV w B gn ds){i:Nat}{d:NdS}{y0 y1 y2 y3 y4 y5 y6:Value}(hi:i<ds.length)(hd:Yo w B (.agg #[y0,y1,y2,y3,y4,y5,y6]) d):
  zV (((((((w.setCell ⟨gn,i*7,none⟩ y0).setCell ⟨gn,i*7+1,none⟩ y1).setCell ⟨gn,i*7+2,none⟩ y2).setCell ⟨gn,i*7+3,none⟩ y3).setCell ⟨gn,i*7+4,none⟩ y4).setCell ⟨gn,i*7+5,none⟩ y5).setCell ⟨gn,i*7+6,none⟩ y6) B gn (ds.set i d)∧
  Keeps [31] w (((((((w.setCell ⟨gn,i*7,none⟩ y0).setCell ⟨gn,i*7+1,none⟩ y1).setCell ⟨gn,i*7+2,none⟩ y2).setCell ⟨gn,i*7+3,none⟩ y3).setCell ⟨gn,i*7+4,none⟩ y4).setCell ⟨gn,i*7+5,none⟩ y5).setCell ⟨gn,i*7+6,none⟩ y6):=by
 obtain⟨ns,h1,h2,h3,h4⟩:=h;have b0:=h1.set (i*7) y0;have b1:=b0.set (i*7+1) y1;have b2:=b1.set (i*7+2) y2;have b3:=b2.set (i*7+3) y3;have b4:=b3.set (i*7+4) y4;have b5:=b4.set (i*7+5) y5;have b6:=b5.set (i*7+6) y6;have hk:=((((((Yt h1 (i*7) y0).trans (Yt b0 (i*7+1) y1)).trans (Yt b1 (i*7+2) y2)).trans (Yt b2 (i*7+3) y3)).trans (Yt b3 (i*7+4) y4)).trans (Yt b4 (i*7+5) y5)).trans (Yt b5 (i*7+6) y6);rw[flat7_set ns h3 (by omega)]at b6;refine⟨⟨_,b6,by simp[h2],fun l hl=>?_,fun j e he=>?_⟩,hk⟩
 ·rcases List.mem_or_eq_of_mem_set hl with hl|hl
  ·exact h3 l hl
  subst hl;rfl
 rw[List.getElem?_set]at he;rw[List.getElem?_set]
 by_cases hij:i=j
 ·subst hij;rw[if_pos rfl,if_pos hi]at he;simp only[Option.some.injEq]at he;subst he;rw[if_pos rfl,if_pos (by omega)];exact⟨y0,y1,y2,y3,y4,y5,y6,rfl,hk.node far_node hd⟩
 rw[if_neg hij]at he ⊢;obtain⟨x0,x1,x2,x3,x4,x5,x6,e1,e2⟩:=h4 j e he;exact⟨x0,x1,x2,x3,x4,x5,x6,e1,hk.node far_node e2⟩

structure WdX (w:World) (B:Nat) (W:WdS) (gn gw:Nat) (gr:Nat→Nat) (rv:Nat→List Value) (ex:Option (Nat×Nat)):Prop where
 few:W.nodes.length≤6
 wl:W.way.length=W.nodes.length
 wr:∀a,a<W.nodes.length→(W.way.getD a []).length=W.nodes.length
 bn:B≤gn
 bw:B≤gw
 nodes:zV w B gn W.nodes
 way:Box w gw ((List.range W.nodes.length).map fun a=>.slice (some ⟨gr a,0,none⟩) W.nodes.length W.nodes.length) 100
 rows:∀a,a<W.nodes.length→B≤gr a∧Box w (gr a) (rv a) 103∧(rv a).length=W.nodes.length
 inj:∀a b,a<W.nodes.length→b<W.nodes.length→gr a=gr b→a=b
 pcl:∀a b,a<W.nodes.length→b<W.nodes.length→ex≠some (a,b)→PwO w B ((rv a).getD b (.slice none 0 0)) ((W.way.getD a []).getD b [])
 apart:∀a b c d k,a<W.nodes.length→b<W.nodes.length→c<W.nodes.length→d<W.nodes.length→ex≠some (a,b)→ex≠some (c,d)→Zx ((rv a).getD b (.slice none 0 0))=some k→Zx ((rv c).getD d (.slice none 0 0))=some k→a=c∧b=d
section
variable {w w':World}{B:Nat}{W:WdS}{gn gw:Nat}{gr:Nat→Nat}{rv:Nat→List Value}{ex:Option (Nat×Nat)}
theorem WdX.kept{S:List TypeId}(h:WdX w B W gn gw gr rv ex)(hk:Keeps S w w')(hf:Far S)(h1:31 ∉ S)(h2:100 ∉ S)(h3:103 ∉ S)(h4:35 ∉ S):WdX w' B W gn gw gr rv ex:=
 ⟨h.few,h.wl,h.wr,h.bn,h.bw,h.nodes.kept hk hf h1,hk.box h.way h2,fun a ha=>⟨(h.rows a ha).1,hk.box (h.rows a ha).2.1 h3,(h.rows a ha).2.2⟩,h.inj,fun a b ha hb he=>(h.pcl a b ha hb he).kept hk hf h4,h.apart⟩
theorem WdX.below(h:WdX w B W gn gw gr rv ex)(hb:Below w.heap.size w w'):WdX w' B W gn gw gr rv ex:=h.kept (S:=[]) (Keeps.below hb) ⟨by simp,by simp,by simp,by simp,by simp⟩ (by simp) (by simp) (by simp) (by simp)
theorem WdX.putN(h:WdX w B W gn gw gr rv ex){i:Nat}{d:NdS}{y0 y1 y2 y3 y4 y5 y6:Value}(hi:i<W.nodes.length)(hd:Yo w B (.agg #[y0,y1,y2,y3,y4,y5,y6]) d):
  WdX (((((((w.setCell ⟨gn,i*7,none⟩ y0).setCell ⟨gn,i*7+1,none⟩ y1).setCell ⟨gn,i*7+2,none⟩ y2).setCell ⟨gn,i*7+3,none⟩ y3).setCell ⟨gn,i*7+4,none⟩ y4).setCell ⟨gn,i*7+5,none⟩ y5).setCell ⟨gn,i*7+6,none⟩ y6) B (Ow W i d) gn gw gr rv ex:=by
 obtain⟨hn,hk⟩:=h.nodes.put hi hd;have hl:(Ow W i d).nodes.length=W.nodes.length:=by unfold Ow;simp
 refine⟨by rw[hl];exact h.few,by rw[hl];exact h.wl,fun a ha=>by rw[hl]at ha ⊢;exact h.wr a ha,h.bn,h.bw,hn,?_,fun a ha=>?_,fun a b ha hb=>?_,fun a b ha hb he=>?_,fun a b c e k ha hb hc he=>?_⟩
 ·rw[hl];exact hk.box h.way (by decide)
 ·rw[hl]at ha ⊢;exact⟨(h.rows a ha).1,hk.box (h.rows a ha).2.1 (by decide),(h.rows a ha).2.2⟩
 ·rw[hl]at ha hb;exact h.inj a b ha hb
 ·rw[hl]at ha hb;exact(h.pcl a b ha hb he).kept hk far_node (by decide)
 rw[hl]at ha hb hc he;exact h.apart a b c e k ha hb hc he
theorem WdX.putW(h:WdX w B W gn gw gr rv ex){a b:Nat}{v:Value}{l:List Pcl}(ha:a<W.nodes.length)(hb:b<W.nodes.length)(hex:ex=none∨ex=some (a,b))(hv:PwO w B v l)(hap:∀c d k,c<W.nodes.length→d<W.nodes.length→¬(c=a∧d=b)→Zx v=some k→Zx ((rv c).getD d (.slice none 0 0))≠some k):
  WdX (w.setCell ⟨gr a,b,none⟩ v) B (Qy W a b l) gn gw gr (fun c=>if c=a then(rv a).set b v else rv c) none∧Keeps [103] w (w.setCell ⟨gr a,b,none⟩ v):=by
 obtain⟨r1,r2,r3⟩:=h.rows a ha;have hk:=Yt r2 b v
 have hxn:∀c d,¬(c=a∧d=b)→ex≠some (c,d):=by
  intro c d hcd he
  rcases hex with rfl|rfl
  ·simp at he
  simp only[Option.some.injEq,Prod.mk.injEq]at he;exact hcd ⟨he.1.symm,he.2.symm⟩
 have hbr:b<(rv a).length:=by rw[r3];exact hb
 have hg:∀c d,((if c=a then(rv a).set b v else rv c):List Value).getD d (.slice none 0 0)=if c=a∧d=b then v else(rv c).getD d (.slice none 0 0):=by
  intro c d
  by_cases hc:c=a
  ·subst hc;rw[if_pos rfl,zD hbr]
   by_cases hd:d=b
   ·rw[if_pos hd,if_pos ⟨rfl,hd⟩]
   rw[if_neg hd,if_neg (fun hh=>hd hh.2)]
  rw[if_neg hc,if_neg (fun hh=>hc hh.1)]
 have haw:a<W.way.length:=by rw[h.wl];exact ha
 have hbw:b<(W.way.getD a []).length:=by rw[h.wr a ha];exact hb
 refine⟨⟨h.few,?_,fun c hc=>?_,h.bn,h.bw,h.nodes.kept hk far_row (by decide),hk.box h.way (by decide),fun c hc=>?_,h.inj,fun c d hc hd _=>?_,fun c d c' d' k hc hd hc' hd' _ _=>?_⟩,hk⟩
 ·show(W.way.set a _).length=_
  rw[List.length_set];exact h.wl
 ·show((W.way.set (a:Int).toNat _).getD c []).length=_
  rw[Int.toNat_natCast,zD haw]
  split
  ·rw[List.length_set];exact h.wr a ha
  exact h.wr c hc
 ·obtain⟨q1,q2,q3⟩:=h.rows c hc;refine⟨q1,?_,?_⟩
  ·by_cases hca:c=a
   ·subst hca;rw[if_pos rfl];exact r2.set b v
   rw[if_neg hca];exact q2.away (fun he=>hca (h.inj c a hc ha he))
  show((if c=a then(rv a).set b v else rv c):List Value).length=_
  split
  ·rw[List.length_set];exact r3
  exact q3
 ·rw[hg]
  show PwO _ B _ (((W.way.set (a:Int).toNat ((W.way.getD (a:Int).toNat []).set (b:Int).toNat l)).getD c []).getD d [])
  rw[Int.toNat_natCast,Int.toNat_natCast,zD haw]
  by_cases hca:c=a
  ·subst hca;rw[if_pos rfl,zD hbw]
   by_cases hdb:d=b
   ·rw[if_pos ⟨rfl,hdb⟩,if_pos hdb];exact hv.kept hk far_row (by decide)
   rw[if_neg (fun hh=>hdb hh.2),if_neg hdb]
   exact(h.pcl c d hc hd (hxn c d (fun hh=>hdb hh.2))).kept hk far_row (by decide)
  rw[if_neg (fun hh=>hca hh.1),if_neg hca]
  exact(h.pcl c d hc hd (hxn c d (fun hh=>hca hh.1))).kept hk far_row (by decide)
 rw[hg,hg]
 by_cases h1:c=a∧d=b
 ·by_cases h2:c'=a∧d'=b
  ·exact fun _ _=>⟨h1.1.trans h2.1.symm,h1.2.trans h2.2.symm⟩
  rw[if_pos h1,if_neg h2];exact fun k1 k2=>absurd k2 (hap c' d' k hc' hd' h2 k1)
 by_cases h2:c'=a∧d'=b
 ·rw[if_neg h1,if_pos h2];exact fun k1 k2=>absurd k1 (hap c d k hc hd h1 k2)
 rw[if_neg h1,if_neg h2];exact h.apart c d c' d' k hc hd hc' hd' (hxn c d h1) (hxn c' d' h2)
theorem WdX.grow(h:WdX w B W gn gw gr rv none){a b:Nat}(ha:a<W.nodes.length)(hb:b<W.nodes.length)(hg:w.grownBy w' (Zx ((rv a).getD b (.slice none 0 0)))):WdX w' B W gn gw gr rv (some (a,b))∧Keeps [35] w w':=by
 have hp:=h.pcl a b ha hb (by simp)
 have hk:Keeps [35] w w':=by
  cases hm:Zx ((rv a).getD b (.slice none 0 0))with
  |none=>rw[hm]at hg;exact keeps_grown0 hg
  |some g=>
   obtain⟨-,-,cur,hc⟩:=hp.lt hm;rw[hm]at hg;exact keeps_grown hc hg
 refine⟨⟨h.few,h.wl,h.wr,h.bn,h.bw,h.nodes.kept hk Ux (by decide),hk.box h.way (by decide),fun c hc=>⟨(h.rows c hc).1,hk.box (h.rows c hc).2.1 (by decide),(h.rows c hc).2.2⟩,h.inj,fun c d hc hd he=>?_,fun c d c' d' k hc hd hc' hd' _ _=>h.apart c d c' d' k hc hd hc' hd' (by simp) (by simp)⟩,hk⟩;refine(h.pcl c d hc hd (by simp)).grown hg (fun k hk' hr=>?_) hk Ux;obtain⟨e1,e2⟩:=h.apart c d a b k hc hd ha hb (by simp) (by simp) hk' hr;exact he (by rw[e1,e2])
end
end Go.Proofs.YtfhecilhcofboaaGreat
/- world: which nodes there are; what comes next on a way. -/
namespace Go.Proofs.YtfhecilhcofboaaGreat
open Go.RowKit

def Xi:List TypeId:=[31,103,35]
structure GoX (w:World) (B g:Nat) (W:WdS) (gn gw:Nat) (gr:Nat→Nat) (rv:Nat→List Value) (cv:Value):Prop where
 box:Box w g [.slice (some ⟨gn,0,none⟩) W.nodes.length W.nodes.length,.slice (some ⟨gw,0,none⟩) W.nodes.length W.nodes.length,cv] 95
 bg:B≤g
 x:WdX w B W gn gw gr rv none
section
variable {w w':World}{B g:Nat}{W:WdS}{gn gw:Nat}{gr:Nat→Nat}{rv:Nat→List Value}{cv:Value}
theorem GoX.below(h:GoX w B g W gn gw gr rv cv)(hb:Below w.heap.size w w'):GoX w' B g W gn gw gr rv cv:=⟨h.box.below hb (nlr _),h.bg,h.x.below hb⟩
theorem GoX.way(h:GoX w B g W gn gw gr rv cv){a b:Nat}(ha:a<W.nodes.length)(hb:b<W.nodes.length):
  ∃av c,(rv a).getD b (.slice none 0 0)=.slice av (Oi W a b).length c∧PwO w B (.slice av (Oi W a b).length c) (Oi W a b)∧w.cell? ⟨gw,a,none⟩=some (.slice (some ⟨gr a,0,none⟩) W.nodes.length W.nodes.length)∧w.cell? ⟨gr a,b,none⟩=some (.slice av (Oi W a b).length c)∧w.frozen? ⟨gr a,b,none⟩=false∧B≤gr a∧gr a<w.heap.size∧Oi W a b=(W.way.getD a []).getD b []:=by
 obtain⟨r1,r2,r3⟩:=h.x.rows a ha;have hp:=h.x.pcl a b ha hb (by simp);have hw:Oi W a b=(W.way.getD a []).getD b []:=rfl;rw[←hw]at hp;obtain⟨av,c,e⟩:=hp.form;refine⟨av,c,e,by rw[←e];exact hp,h.x.way.get a (by rw[List.getElem?_map,List.getElem?_range ha];rfl),?_,r2.free b,r1,r2.lt,hw⟩;rw[←e];refine r2.get b ?_;rw[List.getD_eq_getElem?_getD,List.getElem?_eq_getElem (by rw[r3];exact hb)];rfl
end

theorem PwO.len_le{w:World}{B:Nat}{v:Value}{ps:List Pcl}(h:PwO w B v ps):ps.length≤9223372036854775807:=by
 obtain⟨qs,h1,rfl,-⟩:=h;rw[List.length_map]
 rcases h1.2 with⟨_,_,h2⟩|⟨g,o,cap,cur,_,_,_,h2,h3,_⟩
 ·omega
 unfold maxLen at h3;omega
theorem GoX.set6{w:World}{B g r:Nat}{W:WdS}{gn gw:Nat}{gr:Nat→Nat}{rv:Nat→List Value}{cv:Value}{c0 c1 c2 c3 c4 c5:Value}(x0 x1 x2 x3 x4 x5:Value)(h:GoX w B g W gn gw gr rv cv)(hb:Box w r [c0,c1,c2,c3,c4,c5] 35)(hr:∀a b k,a<W.nodes.length→b<W.nodes.length→Zx ((rv a).getD b (.slice none 0 0))=some k→k≠r)(hB:B≤r):
  GoX ((((((w.setCell ⟨r,0,none⟩ (x0)).setCell ⟨r,1,none⟩ (x1)).setCell ⟨r,2,none⟩ (x2)).setCell ⟨r,3,none⟩ (x3)).setCell ⟨r,4,none⟩ (x4)).setCell ⟨r,5,none⟩ (x5)) B g W gn gw gr rv cv∧(∀v p,Uq w B v p→Uq ((((((w.setCell ⟨r,0,none⟩ (x0)).setCell ⟨r,1,none⟩ (x1)).setCell ⟨r,2,none⟩ (x2)).setCell ⟨r,3,none⟩ (x3)).setCell ⟨r,4,none⟩ (x4)).setCell ⟨r,5,none⟩ (x5)) B v p)∧Keeps [35] w ((((((w.setCell ⟨r,0,none⟩ (x0)).setCell ⟨r,1,none⟩ (x1)).setCell ⟨r,2,none⟩ (x2)).setCell ⟨r,3,none⟩ (x3)).setCell ⟨r,4,none⟩ (x4)).setCell ⟨r,5,none⟩ (x5))∧(∀w0,Below B w0 w→Below B w0 ((((((w.setCell ⟨r,0,none⟩ (x0)).setCell ⟨r,1,none⟩ (x1)).setCell ⟨r,2,none⟩ (x2)).setCell ⟨r,3,none⟩ (x3)).setCell ⟨r,4,none⟩ (x4)).setCell ⟨r,5,none⟩ (x5))):=by
 have b0:=hb.set 0 x0;have b1:=b0.set 1 x1;have b2:=b1.set 2 x2;have b3:=b2.set 3 x3;have b4:=b3.set 4 x4;have b5:=b4.set 5 x5;have hk:=((((((Yt hb 0 x0).trans (Yt b0 1 x1)).trans (Yt b1 2 x2)).trans (Yt b2 3 x3)).trans (Yt b3 4 x4)).trans (Yt b4 5 x5));have hgr:w.grownBy ((((((w.setCell ⟨r,0,none⟩ (x0)).setCell ⟨r,1,none⟩ (x1)).setCell ⟨r,2,none⟩ (x2)).setCell ⟨r,3,none⟩ (x3)).setCell ⟨r,4,none⟩ (x4)).setCell ⟨r,5,none⟩ (x5)) (some r):=(Zy (Zy (Zy (Zy (Zy (Xv w r 0 x0) (Xv _ r 1 x1)) (Xv _ r 2 x2)) (Xv _ r 3 x3)) (Xv _ r 4 x4)) (Xv _ r 5 x5));refine⟨⟨hk.box h.box (by decide),h.bg,⟨h.x.few,h.x.wl,h.x.wr,h.x.bn,h.x.bw,h.x.nodes.kept hk Ux (by decide),hk.box h.x.way (by decide),fun a ha=>⟨(h.x.rows a ha).1,hk.box (h.x.rows a ha).2.1 (by decide),(h.x.rows a ha).2.2⟩,h.x.inj,fun a b ha hb' he=>?_,h.x.apart⟩⟩,fun v p hp=>hk.pcl Ux hp,hk,fun w0 h0=>((((((h0.setCell (p:=⟨r,0,none⟩) hB x0).setCell (p:=⟨r,1,none⟩) hB x1).setCell (p:=⟨r,2,none⟩) hB x2).setCell (p:=⟨r,3,none⟩) hB x3).setCell (p:=⟨r,4,none⟩) hB x4).setCell (p:=⟨r,5,none⟩) hB x5)⟩
 exact(h.x.pcl a b ha hb' he).grown hgr (fun k hk' hr'=>hr a b k ha hb' hk' (by simpa using hr'.symm)) hk Ux

set_option maxRecDepth 100000 in
set_option maxHeartbeats 2000000 in
theorem Uo(w:World)(B g:Nat)(W:WdS)(gn gw:Nat)(gr:Nat→Nat)(rv:Nat→List Value)(cv:Value)(i:Int)(h:GoX w B g W gn gw gr rv cv):
  Calls Tryz.prog 119 #[.pointer (some ⟨g,0,none⟩),.int .i64 i] w fun e w'=>e=.returned (.bool (isNB W i))∧w'=w:=by
 have hc:=h.box.get 0 rfl;have hn:W.nodes.length≤9223372036854775807:=by have:=h.x.few;omega
 obtain⟨b,HB⟩:∃b,Hid (isNB W i=b):=⟨_,rfl⟩;rw[HB.out];unfold isNB at HB;clear h
 by_cases h0:0≤i
 ·by_cases h1:i<(W.nodes.length:Int)
  ·have hb:true=b:=by rw[←HB.out];exact(decide_eq_true ⟨h0,h1⟩).symm
   subst hb;clear HB
   go_enter Tryz.func119,Tryz.ntmps119
   go_wp2_with fail
   go_ret
   exact⟨rfl,rfl⟩
  have hb:false=b:=by rw[←HB.out];exact(decide_eq_false (fun hh=>h1 hh.2)).symm
  subst hb;clear HB
  go_enter Tryz.func119,Tryz.ntmps119
  go_wp2_with fail
  go_ret
  exact⟨rfl,rfl⟩
 have hb:false=b:=by rw[←HB.out];exact(decide_eq_false (fun hh=>h0 hh.1)).symm
 subst hb;clear HB
 go_enter Tryz.func119,Tryz.ntmps119
 go_wp2_with fail
 go_ret
 exact⟨rfl,rfl⟩

set_option maxRecDepth 100000 in
set_option maxHeartbeats 4000000 in
theorem next_w(w:World)(B g:Nat)(W:WdS)(gn gw:Nat)(gr:Nat→Nat)(rv:Nat→List Value)(cv:Value)(a b:Nat)(h:GoX w B g W gn gw gr rv cv)(hB:B≤w.heap.size)(ha:a<W.nodes.length)(hb:b<W.nodes.length):
  Calls Tryz.prog 120 #[.pointer (some ⟨g,0,none⟩),.int .i64 a,.int .i64 b] w fun e w'=>∃pv,e=.returned (.tuple #[pv,.int .i64 (nextE W a b)])∧(∃rv',GoX w' B g (zN W a b) gn gw gr rv' cv)∧Uq w' B pv (nextP W a b)∧Keeps Xi w w'∧Below B w w':=by
 have hb0:=bpl w (.cells #[.bool false,.slice none 0 0,.slice none 0 0,.slice none 0 0,.slice none 0 0,.slice none 0 0] 35);have R0:=Za (Box.new w [.bool false,.slice none 0 0,.slice none 0 0,.slice none 0 0,.slice none 0 0,.slice none 0 0] 35);have G0:=h.below hb0;have hgl:=h.box.lt;have hn:W.nodes.length≤6:=h.x.few;have hal':(a:Int)<(W.nodes.length:Int):=by omega
 have hbl':(b:Int)<(W.nodes.length:Int):=by omega
 obtain⟨W1,HW1⟩:∃W1,Hid (w.alloc (.cells #[.bool false,.slice none 0 0,.slice none 0 0,.slice none 0 0,.slice none 0 0,.slice none 0 0] 35)=W1):=⟨_,rfl⟩;have hsz:Hid (W1.heap.size=w.heap.size+1):=by unfold Hid;rw[←HW1.out,World.size_alloc]
 rw[HW1.out]at R0 G0 hb0;have HB0:Hid (Below B w W1):=hb0.mono hB;have HKP:Hid (Keeps Xi w W1):=Keeps.below hb0;obtain⟨av,c,e0,hpw,cw,cr,fr,hgB,hgs,hwy⟩:=G0.way ha hb;obtain⟨ps,HPS⟩:∃ps,Hid (Oi W a b=ps):=⟨_,rfl⟩;rw[HPS.out]at e0 hpw cr hwy
 have HMB:Hid (∀x y k,x<W.nodes.length→y<W.nodes.length→Zx ((rv x).getD y (.slice none 0 0))=some k→k≠w.heap.size):=fun x y k hx hy hk=>by
  have:=(h.x.pcl x y hx hy (by simp)).lt hk;omega
 have HG:=Za G0;have HE0:=Za e0;have HPW:=Za hpw;have HWY:=Za hwy;have g1:=G0.box.get 1 rfl;obtain⟨E,HE⟩:∃E,Hid (nextE W a b=E):=⟨_,rfl⟩;obtain⟨X,HX⟩:∃X,Hid (zN W a b=X):=⟨_,rfl⟩;obtain⟨N,HN⟩:∃N,Hid (nextP W a b=N):=⟨_,rfl⟩;rw[HE.out,HX.out,HN.out];unfold nextE zN at*;unfold nextP at HN;rw[HPS.out]at HE HX HN;clear h hb0 G0 e0 hpw hwy
 cases hps:ps with
 |nil=>
  subst hps;have hE:6=E:=HE.out;have hX:W=X:=HX.out;have hN:noPcl=N:=HN.out;subst hE;subst hX;subst hN;simp only[List.length_nil]at cr
  go_enter Tryz.func120,Tryz.ntmps120
  go_upto_region 1 with fail
  rw[HW1.out];have hr0:∀x y k,x<W.nodes.length→y<W.nodes.length→Zx ((rv x).getD y (.slice none 0 0))=some k→k≠w.heap.size:=HMB.out;obtain⟨q1,q2,q3,q4⟩:=HG.set6 (.bool false) (.slice none 0 0) (.slice none 0 0) (.slice none 0 0) (.slice none 0 0) (.slice none 0 0) R0.out hr0 hB;have r0:=R0.get 0 rfl;have s0:=R0.free 0;have r1:=R0.get 1 rfl;have s1:=R0.free 1;have r2:=R0.get 2 rfl;have s2:=R0.free 2;have r3:=R0.get 3 rfl;have s3:=R0.free 3;have r4:=R0.get 4 rfl;have s4:=R0.free 4;have r5:=R0.get 5 rfl;have s5:=R0.free 5
  go_wp2_with fail
  have hR:=(((((((R0.out).set 0 (.bool false)).set 1 (.slice none 0 0)).set 2 (.slice none 0 0)).set 3 (.slice none 0 0)).set 4 (.slice none 0 0)).set 5 (.slice none 0 0));refine bodyPost_ret (Zc rfl _ _ w.heap.size 35 _ (0,0) _ rfl hR Tryz.underlying35 rfl Tryz.sizeParcel) rfl ⟨_,rfl,⟨_,q1⟩,q2 _ _ (Uq.none W1 B),HKP.trans (q3.more (by decide)),q4 _ HB0.out⟩
 |cons p r=>
  subst hps;have hE:0=E:=HE.out;have hN:p=N:=HN.out;subst hE;subst hN;obtain⟨gp,o,c',x0,x1,x2,x3,x4,x5,hv,hmb,hpo,hcells,hrc,t0,t1⟩:=HPW.head;simp only[Value.slice.injEq]at hv;obtain⟨rfl,-,rfl⟩:=hv;obtain⟨f1,e1,f2,e2,f3,e3,f4,e4,f5,e5,hval,-⟩:=hpo.pcl.form;simp only[Value.agg.injEq,Array.mk.injEq,List.cons.injEq,and_true]at hval;obtain⟨rfl,rfl,rfl,rfl,rfl,rfl⟩:=hval;have HXX:Hid (Qy W a b r=X):=HX.out;have HPO:=Za hpo;have HCE:=Za hcells;have HMG:=Za hmb;simp only[List.length_cons]at cr;have hmb0:Zx ((rv a).getD b (.slice none 0 0))=some gp:=by rw[HE0.out];exact hmb
  have HM0:=Za hmb0;have hgpr:gp≠w.heap.size:=HMB.out a b gp ha hb hmb0;have hrl:r.length≤9223372036854775806:=by have:=HPW.len_le;simp only[List.length_cons]at this;omega
  by_cases hc0:c'=0
  ·subst hc0;have hr0:r=[]:=List.eq_nil_of_length_eq_zero (by omega);subst hr0;have TV:=Za (t0 rfl);clear t0 t1 hmb hpo hcells hrc;simp only[List.length_nil,Nat.zero_add]at cr
   go_enter Tryz.func120,Tryz.ntmps120
   go_upto_region 1 with fail
   rw[HW1.out]
   go_upto_region 4 with fail
   have HK:=Za fun w' (hg:Zh W1 w')=>And.intro ((HG.box.below hg (nlr _)).get 1 rfl) ((hg.cell (p:=⟨gw,a,none⟩) (World.block_lt_of_cell? W1 _ cw)).trans cw);refine rgn HK.out fun wd hgd hHeld=>?_;refine ty 0 (.pointer (some ⟨g,0,none⟩)) ?_;refine ty 1 (.pointer (some ⟨g,0,none⟩)) ?_;refine ty 2 (.pointer (some ⟨g,0,none⟩)) ?_;refine ty 3 (.pointer (some ⟨g,1,none⟩)) ?_;refine ty 4 (.slice (some ⟨gw,0,none⟩) W.nodes.length W.nodes.length) ?_;refine ty 5 (.int .i64 (a:Int)) ?_;refine ty 6 (.pointer (some ⟨gw,a,none⟩)) ?_;refine ty 7 (.slice (some ⟨gr a,0,none⟩) W.nodes.length W.nodes.length) ?_;refine ty 8 (.int .i64 (b:Int)) ?_;refine ty 9 (.slice (some ⟨gp,o,none⟩) 1 1) ?_;refine ty 10 (.slice (some ⟨gp,o,none⟩) 0 0) ?_;refine ty 11 (.pointer (some ⟨gr a,b,none⟩)) ?_;have Gd:=HG.below hgd;have crd:=(hgd.cell (p:=⟨gr a,b,none⟩) (World.block_lt_of_cell? W1 _ cr)).trans cr;have frd:wd.frozen? ⟨gr a,b,none⟩=false:=(Gd.x.rows a ha).2.1.free b;have TVd:PwO wd B (.slice (some ⟨gp,o,none⟩) 0 0) []:=TV.kept (S:=[]) (Keeps.below hgd) ⟨by simp,by simp,by simp,by simp,by simp⟩ (by simp)
   obtain⟨hX,hK2⟩:=Gd.x.putW ha hb (.inl rfl) TVd (fun x y k hx hy hxy hk hk2=>by
    have hk':gp=k:=by simp[Zx]at hk
    subst hk'
    exact hxy (HG.x.apart x y a b gp hx hy ha hb (by simp) (by simp) hk2 HM0.out))
   have Gx:GoX (wd.setCell ⟨gr a,b,none⟩ (.slice (some ⟨gp,o,none⟩) 0 0)) B g (Qy W a b []) gn gw gr _ cv:=⟨hK2.box Gd.box (by decide),Gd.bg,hX⟩;have HB5:=(HB0.trans (hgd.mono (by have:=hsz.out;omega))).setCell (p:=⟨gr a,b,none⟩) hgB (.slice (some ⟨gp,o,none⟩) 0 0);have HK5:Keeps Xi w (wd.setCell ⟨gr a,b,none⟩ (.slice (some ⟨gp,o,none⟩) 0 0)):=(HKP.trans (Keeps.below hgd)).trans (hK2.more (by decide));have R5:=(R0.below hgd (nlr _)).away (g':=gr a) (i:=b) (v:=.slice (some ⟨gp,o,none⟩) 0 0) (by have:=(HG.x.rows a ha).2.1;intro he;rw[he]at R0;unfold Box at this;rw[R0.out]at this;simp at this);have P5:=hK2.pcl far_row ((HPO.below hgd (nlr _)))
   have hcl:∀m x,W1.cell? ⟨gp,m,none⟩=some x→(wd.setCell ⟨gr a,b,none⟩ (.slice (some ⟨gp,o,none⟩) 0 0)).cell? ⟨gp,m,none⟩=some x:=by
    intro m x hm;have h1:=(hgd.cell (p:=⟨gp,m,none⟩) (World.block_lt_of_cell? W1 _ hm)).trans hm;obtain⟨-,-,cur,hcu⟩:=(Gd.x.pcl a b ha hb (by simp)).lt HM0.out;have h2:=hK2 gp cur _ hcu (by decide);simp only[World.cell?,hcu]at h1;simp only[World.cell?,h2];exact h1
   obtain⟨k0,k1,k2,k3,k4,k5⟩:=HCE.out;have m0:=hcl _ _ k0;have m1:=hcl _ _ k1;have m2:=hcl _ _ k2;have m3:=hcl _ _ k3;have m4:=hcl _ _ k4;have m5:=hcl _ _ k5
   have hmbx:∀x y k,x<(Qy W a b []).nodes.length→y<(Qy W a b []).nodes.length→Zx (((fun c=>if c=a then(rv a).set b (.slice (some ⟨gp,o,none⟩) 0 0)else rv c) x).getD y (.slice none 0 0))=some k→k≠w.heap.size:=by
    intro x y k hx hy hk;have hbr:b<(rv a).length:=by rw[(HG.x.rows a ha).2.2];exact hb
    by_cases hxa:x=a
    ·subst hxa;simp only[if_true]at hk;rw[zD hbr]at hk
     split at hk
     ·have hk':gp=k:=by simp[Zx]at hk
      rw[←hk'];exact hgpr
     exact HMB.out x y k hx hy hk
    simp only[if_neg hxa]at hk;exact HMB.out x y k hx hy hk
   refine wr 12 fun K hK=>?_;go_simp;have hs2:(wd.setCell ⟨gr a,b,none⟩ (.slice (some ⟨gp,o,none⟩) 0 0)).cell? ⟨g,1,none⟩=some (.slice (some ⟨gw,0,none⟩) W.nodes.length W.nodes.length)∧(wd.setCell ⟨gr a,b,none⟩ (.slice (some ⟨gp,o,none⟩) 0 0)).cell? ⟨gw,a,none⟩=some (.slice (some ⟨gr a,0,none⟩) W.nodes.length W.nodes.length):=⟨Gx.box.get 1 rfl,(show Box _ gw ((List.range W.nodes.length).map fun a=>.slice (some ⟨gr a,0,none⟩) W.nodes.length W.nodes.length) 100 from Gx.x.way).get a (by rw[List.getElem?_map,List.getElem?_range ha];rfl)⟩;obtain⟨W5,HW5⟩:∃W5,Hid (wd.setCell ⟨gr a,b,none⟩ (.slice (some ⟨gp,o,none⟩) 0 0)=W5):=⟨_,rfl⟩;rw[HW5.out]at Gx HB5 HK5 R5 P5 m0 m1 m2 m3 m4 m5 hs2 ⊢;refine hK.out _ _ hs2 (fun _=>?_);clear hK K crd frd hcl hs2 hX hK2 Gd TVd
   try simp only[Act.put,Zt,Zs,Zr]
   refine wpAnyH_done (by kernel_rfl) ?_ _;have hXX:=HXX.out;rw[hXX]at Gx hmbx;obtain⟨q1,q2,q3,q4⟩:=Gx.set6 (.bool p.whole) (.slice f1 p.st.clock.length e1) (.slice f2 p.st.lives.length e2) (.slice f3 p.st.tals.length e3) (.slice f4 p.ups.length e4) (.slice f5 p.clock.length e5) R5 hmbx hB;have HR5:=Za R5;clear Gx R5;have r0:=HR5.get 0 rfl;have s0:=HR5.free 0;have r1:=HR5.get 1 rfl;have s1:=HR5.free 1;have r2:=HR5.get 2 rfl;have s2:=HR5.free 2;have r3:=HR5.get 3 rfl;have s3:=HR5.free 3;have r4:=HR5.get 4 rfl;have s4:=HR5.free 4;have r5:=HR5.get 5 rfl;have s5:=HR5.free 5
   go_wp2_with fail
   have hR:=(((((((HR5.out).set 0 (.bool p.whole)).set 1 (.slice f1 p.st.clock.length e1)).set 2 (.slice f2 p.st.lives.length e2)).set 3 (.slice f3 p.st.tals.length e3)).set 4 (.slice f4 p.ups.length e4)).set 5 (.slice f5 p.clock.length e5));refine bodyPost_ret (Zc rfl _ _ w.heap.size 35 _ (0,0) _ rfl hR Tryz.underlying35 rfl Tryz.sizeParcel) rfl ⟨_,rfl,⟨_,q1⟩,q2 _ _ P5,HK5.trans (q3.more (by decide)),q4 _ HB5⟩
  have TV:=Za (t1 (by omega));obtain⟨c2,hc2⟩:∃c2,c'=c2+1:=⟨c' - 1,by omega⟩;subst hc2;have hcne:¬(c2+1+1=1):=by omega
  have hlt1:¬((r.length:Int)+1<1):=by omega
  clear t0 t1 hmb hpo hcells hc0
  go_enter Tryz.func120,Tryz.ntmps120
  go_upto_region 1 with fail
  rw[HW1.out]
  go_upto_region 4 with fail
  have HK:=Za fun w' (hg:Zh W1 w')=>And.intro ((HG.box.below hg (nlr _)).get 1 rfl) ((hg.cell (p:=⟨gw,a,none⟩) (World.block_lt_of_cell? W1 _ cw)).trans cw);refine rgn HK.out fun wd hgd hHeld=>?_;refine ty 0 (.pointer (some ⟨g,0,none⟩)) ?_;refine ty 1 (.pointer (some ⟨g,0,none⟩)) ?_;refine ty 2 (.pointer (some ⟨g,0,none⟩)) ?_;refine ty 3 (.pointer (some ⟨g,1,none⟩)) ?_;refine ty 4 (.slice (some ⟨gw,0,none⟩) W.nodes.length W.nodes.length) ?_;refine ty 5 (.int .i64 (a:Int)) ?_;refine ty 6 (.pointer (some ⟨gw,a,none⟩)) ?_;refine ty 7 (.slice (some ⟨gr a,0,none⟩) W.nodes.length W.nodes.length) ?_;refine ty 8 (.int .i64 (b:Int)) ?_;refine ty 9 (.slice (some ⟨gp,o,none⟩) (r.length+1) (c2+1+1)) ?_;refine ty 10 (.slice (some ⟨gp,o+6,none⟩) r.length (c2+1)) ?_;refine ty 11 (.pointer (some ⟨gr a,b,none⟩)) ?_;have Gd:=HG.below hgd;have crd:=(hgd.cell (p:=⟨gr a,b,none⟩) (World.block_lt_of_cell? W1 _ cr)).trans cr;have frd:wd.frozen? ⟨gr a,b,none⟩=false:=(Gd.x.rows a ha).2.1.free b;have TVd:PwO wd B (.slice (some ⟨gp,o+6,none⟩) r.length (c2+1)) r:=TV.kept (S:=[]) (Keeps.below hgd) ⟨by simp,by simp,by simp,by simp,by simp⟩ (by simp)
  obtain⟨hX,hK2⟩:=Gd.x.putW ha hb (.inl rfl) TVd (fun x y k hx hy hxy hk hk2=>by
   have hk':gp=k:=by simpa[Zx]using hk
   subst hk'
   exact hxy (HG.x.apart x y a b gp hx hy ha hb (by simp) (by simp) hk2 HM0.out))
  have Gx:GoX (wd.setCell ⟨gr a,b,none⟩ (.slice (some ⟨gp,o+6,none⟩) r.length (c2+1))) B g (Qy W a b r) gn gw gr _ cv:=⟨hK2.box Gd.box (by decide),Gd.bg,hX⟩;have HB5:=(HB0.trans (hgd.mono (by have:=hsz.out;omega))).setCell (p:=⟨gr a,b,none⟩) hgB (.slice (some ⟨gp,o+6,none⟩) r.length (c2+1));have HK5:Keeps Xi w (wd.setCell ⟨gr a,b,none⟩ (.slice (some ⟨gp,o+6,none⟩) r.length (c2+1))):=(HKP.trans (Keeps.below hgd)).trans (hK2.more (by decide));have R5:=(R0.below hgd (nlr _)).away (g':=gr a) (i:=b) (v:=.slice (some ⟨gp,o+6,none⟩) r.length (c2+1)) (by have:=(HG.x.rows a ha).2.1;intro he;rw[he]at R0;unfold Box at this;rw[R0.out]at this;simp at this);have P5:=hK2.pcl far_row ((HPO.below hgd (nlr _)))
  have hcl:∀m x,W1.cell? ⟨gp,m,none⟩=some x→(wd.setCell ⟨gr a,b,none⟩ (.slice (some ⟨gp,o+6,none⟩) r.length (c2+1))).cell? ⟨gp,m,none⟩=some x:=by
   intro m x hm;have h1:=(hgd.cell (p:=⟨gp,m,none⟩) (World.block_lt_of_cell? W1 _ hm)).trans hm;obtain⟨-,-,cur,hcu⟩:=(Gd.x.pcl a b ha hb (by simp)).lt HM0.out;have h2:=hK2 gp cur _ hcu (by decide);simp only[World.cell?,hcu]at h1;simp only[World.cell?,h2];exact h1
  obtain⟨k0,k1,k2,k3,k4,k5⟩:=HCE.out;have m0:=hcl _ _ k0;have m1:=hcl _ _ k1;have m2:=hcl _ _ k2;have m3:=hcl _ _ k3;have m4:=hcl _ _ k4;have m5:=hcl _ _ k5
  have hmbx:∀x y k,x<(Qy W a b r).nodes.length→y<(Qy W a b r).nodes.length→Zx (((fun c=>if c=a then(rv a).set b (.slice (some ⟨gp,o+6,none⟩) r.length (c2+1))else rv c) x).getD y (.slice none 0 0))=some k→k≠w.heap.size:=by
   intro x y k hx hy hk;have hbr:b<(rv a).length:=by rw[(HG.x.rows a ha).2.2];exact hb
   by_cases hxa:x=a
   ·subst hxa;simp only[if_true]at hk;rw[zD hbr]at hk
    split at hk
    ·have hk':gp=k:=by simpa[Zx]using hk
     rw[←hk'];exact hgpr
    exact HMB.out x y k hx hy hk
   simp only[if_neg hxa]at hk;exact HMB.out x y k hx hy hk
  refine wr 12 fun K hK=>?_;go_simp;have hs2:(wd.setCell ⟨gr a,b,none⟩ (.slice (some ⟨gp,o+6,none⟩) r.length (c2+1))).cell? ⟨g,1,none⟩=some (.slice (some ⟨gw,0,none⟩) W.nodes.length W.nodes.length)∧(wd.setCell ⟨gr a,b,none⟩ (.slice (some ⟨gp,o+6,none⟩) r.length (c2+1))).cell? ⟨gw,a,none⟩=some (.slice (some ⟨gr a,0,none⟩) W.nodes.length W.nodes.length):=⟨Gx.box.get 1 rfl,(show Box _ gw ((List.range W.nodes.length).map fun a=>.slice (some ⟨gr a,0,none⟩) W.nodes.length W.nodes.length) 100 from Gx.x.way).get a (by rw[List.getElem?_map,List.getElem?_range ha];rfl)⟩;obtain⟨W5,HW5⟩:∃W5,Hid (wd.setCell ⟨gr a,b,none⟩ (.slice (some ⟨gp,o+6,none⟩) r.length (c2+1))=W5):=⟨_,rfl⟩;rw[HW5.out]at Gx HB5 HK5 R5 P5 m0 m1 m2 m3 m4 m5 hs2 ⊢;refine hK.out _ _ hs2 (fun _=>?_);clear hK K crd frd hcl hs2 hX hK2 Gd TVd
  try simp only[Act.put,Zt,Zs,Zr]
  refine wpAnyH_done (by kernel_rfl) ?_ _;have hXX:=HXX.out;rw[hXX]at Gx hmbx;obtain⟨q1,q2,q3,q4⟩:=Gx.set6 (.bool p.whole) (.slice f1 p.st.clock.length e1) (.slice f2 p.st.lives.length e2) (.slice f3 p.st.tals.length e3) (.slice f4 p.ups.length e4) (.slice f5 p.clock.length e5) R5 hmbx hB;have HR5:=Za R5;clear Gx R5;have r0:=HR5.get 0 rfl;have s0:=HR5.free 0;have r1:=HR5.get 1 rfl;have s1:=HR5.free 1;have r2:=HR5.get 2 rfl;have s2:=HR5.free 2;have r3:=HR5.get 3 rfl;have s3:=HR5.free 3;have r4:=HR5.get 4 rfl;have s4:=HR5.free 4;have r5:=HR5.get 5 rfl;have s5:=HR5.free 5
  go_wp2_with fail
  have hR:=(((((((HR5.out).set 0 (.bool p.whole)).set 1 (.slice f1 p.st.clock.length e1)).set 2 (.slice f2 p.st.lives.length e2)).set 3 (.slice f3 p.st.tals.length e3)).set 4 (.slice f4 p.ups.length e4)).set 5 (.slice f5 p.clock.length e5));refine bodyPost_ret (Zc rfl _ _ w.heap.size 35 _ (0,0) _ rfl hR Tryz.underlying35 rfl Tryz.sizeParcel) rfl ⟨_,rfl,⟨_,q1⟩,q2 _ _ P5,HK5.trans (q3.more (by decide)),q4 _ HB5⟩
end Go.Proofs.YtfhecilhcofboaaGreat
/- world: what becomes of a node is put in its place. -/
namespace Go.Proofs.YtfhecilhcofboaaGreat
open Go.RowKit

set_option maxRecDepth 100000 in
set_option maxHeartbeats 4000000 in
theorem change_w(fn:Nat)(caps:Array Value)(eg:∀args w,(callFunc fn args).run Tryz.prog w=.ok (.enter fn args) w)(w:World)(B g:Nat)(W:WdS)(gn gw:Nat)(gr:Nat→Nat)(rv:Nat→List Value)(cv:Value)(i e0:Int)(d0:NdS)(h:GoX w B g W gn gw gr rv cv)(hB:B≤w.heap.size)
  (hf:∀v,Vp w v (Xa W i)→isNB W i=true→Calls Tryz.prog fn (#[v]++caps) w fun e w'=>∃rv,e=.returned (.tuple #[rv,.int .i64 e0])∧Yo w' w.heap.size rv d0∧Below w.heap.size w w'):
  Calls Tryz.prog 97 #[.pointer (some ⟨g,0,none⟩),.int .i64 i,.func (.func fn) #[] caps] w fun e w'=>e=.returned (.int .i64 (changeE W i e0))∧GoX w' B g (yI W i e0 d0) gn gw gr rv cv∧Keeps Xi w w'∧Below B w w':=by
 have HG:=Za h;have HF:=Za hf;obtain⟨b,HBB⟩:∃b,Hid (isNB W i=b):=⟨_,rfl⟩;have hgl:=h.box.lt;have hn6:W.nodes.length≤6:=h.x.few;clear h hf;unfold changeE yI
 cases b
 ·rw[if_neg (by rw[HBB.out];decide),if_neg (fun hh=>absurd hh.1 (by rw[HBB.out];decide))]
  go_enter Tryz.func97,Tryz.ntmps97
  go_wp2_with fail
  refine(Uo w B g W gn gw gr rv cv i HG.out).mono ?_;rintro e w' ⟨rfl,rfl⟩;rw[HBB.out]
  go_wp2_with fail
  go_ret
  exact⟨rfl,HG.out,Keeps.refl _ _,Below.refl _ _⟩
 rw[if_pos HBB.out];obtain⟨k,hk,hkl⟩:=isNB_nat HBB.out;subst hk;have hkl':(k:Int)<(W.nodes.length:Int):=by omega
 have hat:W.nodes[k]? =some (Xa W k):=by
  unfold Xa;rw[Int.toNat_natCast,List.getD_eq_getElem?_getD,List.getElem?_eq_getElem hkl];rfl
 obtain⟨x0,x1,x2,x3,x4,x5,x6,hno,c0,c1,c2,c3,c4,c5,c6⟩:=HG.x.nodes.at hat;have g0:=HG.box.get 0 rfl;have HC:=Za (HF.out _ hno.node HBB.out);clear hno
 by_cases he:e0=0
 ·subst he;rw[if_pos ⟨HBB.out,rfl⟩]
  go_enter Tryz.func97,Tryz.ntmps97
  go_wp2_with fail
  refine(Uo w B g W gn gw gr rv cv k HG.out).mono ?_;rintro e w' ⟨rfl,rfl⟩;rw[HBB.out]
  go_wp2_with fail
  go_at_fn fn
  refine HC.mono ?_;rintro e w1 ⟨v1,rfl,ho1,hb1⟩;obtain⟨na1,nc1,na2,nc2,na3,nc3,na4,nc4,na5,nc5,na6,nc6,hv1⟩:=ho1.form;subst hv1;have hbp:=bpl w1 (.cells #[.int .i64 d0.self,.slice na1 d0.st.clock.length nc1,.slice na2 d0.st.lives.length nc2,.slice na3 d0.st.tals.length nc3,.slice na4 d0.base.length nc4,.slice na5 d0.log.length nc5,.slice na6 d0.known.length nc6] 31);have hb2:=Zb hb1 hbp;have G2:=HG.below hb2;have N2:=(ho1.base (C:=B) hB).below hbp (nlr _);have X2:=Box.new w1 [.int .i64 d0.self,.slice na1 d0.st.clock.length nc1,.slice na2 d0.st.lives.length nc2,.slice na3 d0.st.tals.length nc3,.slice na4 d0.base.length nc4,.slice na5 d0.log.length nc5,.slice na6 d0.known.length nc6] 31;obtain⟨W2,HW2⟩:∃W2,Hid (w1.alloc (.cells #[.int .i64 d0.self,.slice na1 d0.st.clock.length nc1,.slice na2 d0.st.lives.length nc2,.slice na3 d0.st.tals.length nc3,.slice na4 d0.base.length nc4,.slice na5 d0.log.length nc5,.slice na6 d0.known.length nc6] 31)=W2):=⟨_,rfl⟩;rw[HW2.out]at hb2 G2 N2 X2;have HG2:=Za G2;have HN2:=Za N2;have HX2:=Za X2;have HB2:Hid (Below B w' W2):=hb2.mono hB;have HK2:Hid (Keeps Xi w' W2):=Keeps.below hb2;have hs1:Hid (w'.heap.size≤w1.heap.size):=hb1.size;clear g0 c0 c1 c2 c3 c4 c5 c6 G2 N2 X2 hb2 hbp hb1 ho1
  go_upto_region 5 with fail
  rw[HW2.out];have HK:=Za fun w' (hg:Zh W2 w')=>And.intro ((HG2.box.below hg (nlr _)).get 0 rfl) (HX2.below hg (nlr _)).c7;refine rgn HK.out fun wd hgd hHeld=>?_;refine ty 0 (.pointer (some ⟨g,0,none⟩)) ?_;refine ty 1 (.pointer (some ⟨g,0,none⟩)) ?_;refine ty 2 (.pointer (some ⟨g,0,none⟩)) ?_;refine ty 3 (.pointer (some ⟨g,0,none⟩)) ?_;refine ty 4 (.slice (some ⟨gn,0,none⟩) W.nodes.length W.nodes.length) ?_;refine ty 5 (.int .i64 (k:Int)) ?_;refine ty 6 (.agg #[.int .i64 d0.self,.slice na1 d0.st.clock.length nc1,.slice na2 d0.st.lives.length nc2,.slice na3 d0.st.tals.length nc3,.slice na4 d0.base.length nc4,.slice na5 d0.log.length nc5,.slice na6 d0.known.length nc6]) ?_;refine ty 7 (.pointer (some ⟨gn,k*7,none⟩)) ?_;have Gd:=HG2.below hgd;have Nd:=HN2.below hgd (nlr _);have Xd:=HX2.below hgd (nlr _);have Gp:=Gd.x.putN hkl Nd;have Kp:=(Gd.x.nodes.put hkl Nd).2
  have hgn:gn≠w1.heap.size:=by
   have:=HG.x.nodes;obtain⟨ns,hb,-⟩:=this;have:=hb.lt;have:=hs1.out;omega
  have Gx:GoX (((((((wd.setCell ⟨gn,k*7,none⟩ (.int .i64 d0.self)).setCell ⟨gn,k*7+1,none⟩ (.slice na1 d0.st.clock.length nc1)).setCell ⟨gn,k*7+2,none⟩ (.slice na2 d0.st.lives.length nc2)).setCell ⟨gn,k*7+3,none⟩ (.slice na3 d0.st.tals.length nc3)).setCell ⟨gn,k*7+4,none⟩ (.slice na4 d0.base.length nc4)).setCell ⟨gn,k*7+5,none⟩ (.slice na5 d0.log.length nc5)).setCell ⟨gn,k*7+6,none⟩ (.slice na6 d0.known.length nc6)) B g (Ow W k d0) gn gw gr rv cv:=⟨by have:=Kp.box Gd.box (by decide);simpa[Ow]using this,Gd.bg,Gp⟩;have Xp:=(((((((Xd.away (g':=gn) (i:=k*7) (v:=.int .i64 d0.self) (fun hh=>hgn hh.symm)).away (g':=gn) (i:=k*7+1) (v:=.slice na1 d0.st.clock.length nc1) (fun hh=>hgn hh.symm)).away (g':=gn) (i:=k*7+2) (v:=.slice na2 d0.st.lives.length nc2) (fun hh=>hgn hh.symm)).away (g':=gn) (i:=k*7+3) (v:=.slice na3 d0.st.tals.length nc3) (fun hh=>hgn hh.symm)).away (g':=gn) (i:=k*7+4) (v:=.slice na4 d0.base.length nc4) (fun hh=>hgn hh.symm)).away (g':=gn) (i:=k*7+5) (v:=.slice na5 d0.log.length nc5) (fun hh=>hgn hh.symm)).away (g':=gn) (i:=k*7+6) (v:=.slice na6 d0.known.length nc6) (fun hh=>hgn hh.symm));have HBp:=((((((((HB2.trans (hgd.mono (by have:=hs1.out;have:=HX2.lt;omega))).setCell (p:=⟨gn,k*7,none⟩) HG.x.bn (.int .i64 d0.self)).setCell (p:=⟨gn,k*7+1,none⟩) HG.x.bn (.slice na1 d0.st.clock.length nc1)).setCell (p:=⟨gn,k*7+2,none⟩) HG.x.bn (.slice na2 d0.st.lives.length nc2)).setCell (p:=⟨gn,k*7+3,none⟩) HG.x.bn (.slice na3 d0.st.tals.length nc3)).setCell (p:=⟨gn,k*7+4,none⟩) HG.x.bn (.slice na4 d0.base.length nc4)).setCell (p:=⟨gn,k*7+5,none⟩) HG.x.bn (.slice na5 d0.log.length nc5)).setCell (p:=⟨gn,k*7+6,none⟩) HG.x.bn (.slice na6 d0.known.length nc6));have HKp:Keeps Xi w' (((((((wd.setCell ⟨gn,k*7,none⟩ (.int .i64 d0.self)).setCell ⟨gn,k*7+1,none⟩ (.slice na1 d0.st.clock.length nc1)).setCell ⟨gn,k*7+2,none⟩ (.slice na2 d0.st.lives.length nc2)).setCell ⟨gn,k*7+3,none⟩ (.slice na3 d0.st.tals.length nc3)).setCell ⟨gn,k*7+4,none⟩ (.slice na4 d0.base.length nc4)).setCell ⟨gn,k*7+5,none⟩ (.slice na5 d0.log.length nc5)).setCell ⟨gn,k*7+6,none⟩ (.slice na6 d0.known.length nc6)):=(HK2.trans (Keeps.below hgd)).trans (Kp.more (by decide));obtain⟨z0,z1,z2,z3,z4,z5,z6,-,c0,c1,c2,c3,c4,c5,c6⟩:=Gd.x.nodes.at hat;have fz:∀m,wd.frozen? ⟨gn,m,none⟩=false:=fun m=>by obtain⟨ns,hbx,-⟩:=Gd.x.nodes;exact hbx.free m
  have f0:=fz (k*7);have f1:=fz (k*7+1);have f2:=fz (k*7+2);have f3:=fz (k*7+3);have f4:=fz (k*7+4);have f5:=fz (k*7+5);have f6:=fz (k*7+6);clear fz;refine wr 8 fun K hK=>?_;go_simp;have hs2:(((((((wd.setCell ⟨gn,k*7,none⟩ (.int .i64 d0.self)).setCell ⟨gn,k*7+1,none⟩ (.slice na1 d0.st.clock.length nc1)).setCell ⟨gn,k*7+2,none⟩ (.slice na2 d0.st.lives.length nc2)).setCell ⟨gn,k*7+3,none⟩ (.slice na3 d0.st.tals.length nc3)).setCell ⟨gn,k*7+4,none⟩ (.slice na4 d0.base.length nc4)).setCell ⟨gn,k*7+5,none⟩ (.slice na5 d0.log.length nc5)).setCell ⟨gn,k*7+6,none⟩ (.slice na6 d0.known.length nc6)).cell? ⟨g,0,none⟩=some (.slice (some ⟨gn,0,none⟩) W.nodes.length W.nodes.length)∧(((((((wd.setCell ⟨gn,k*7,none⟩ (.int .i64 d0.self)).setCell ⟨gn,k*7+1,none⟩ (.slice na1 d0.st.clock.length nc1)).setCell ⟨gn,k*7+2,none⟩ (.slice na2 d0.st.lives.length nc2)).setCell ⟨gn,k*7+3,none⟩ (.slice na3 d0.st.tals.length nc3)).setCell ⟨gn,k*7+4,none⟩ (.slice na4 d0.base.length nc4)).setCell ⟨gn,k*7+5,none⟩ (.slice na5 d0.log.length nc5)).setCell ⟨gn,k*7+6,none⟩ (.slice na6 d0.known.length nc6)).cell? ⟨w1.heap.size,0,none⟩=some (.int .i64 d0.self)∧(((((((wd.setCell ⟨gn,k*7,none⟩ (.int .i64 d0.self)).setCell ⟨gn,k*7+1,none⟩ (.slice na1 d0.st.clock.length nc1)).setCell ⟨gn,k*7+2,none⟩ (.slice na2 d0.st.lives.length nc2)).setCell ⟨gn,k*7+3,none⟩ (.slice na3 d0.st.tals.length nc3)).setCell ⟨gn,k*7+4,none⟩ (.slice na4 d0.base.length nc4)).setCell ⟨gn,k*7+5,none⟩ (.slice na5 d0.log.length nc5)).setCell ⟨gn,k*7+6,none⟩ (.slice na6 d0.known.length nc6)).cell? ⟨w1.heap.size,1,none⟩=some (.slice na1 d0.st.clock.length nc1)∧(((((((wd.setCell ⟨gn,k*7,none⟩ (.int .i64 d0.self)).setCell ⟨gn,k*7+1,none⟩ (.slice na1 d0.st.clock.length nc1)).setCell ⟨gn,k*7+2,none⟩ (.slice na2 d0.st.lives.length nc2)).setCell ⟨gn,k*7+3,none⟩ (.slice na3 d0.st.tals.length nc3)).setCell ⟨gn,k*7+4,none⟩ (.slice na4 d0.base.length nc4)).setCell ⟨gn,k*7+5,none⟩ (.slice na5 d0.log.length nc5)).setCell ⟨gn,k*7+6,none⟩ (.slice na6 d0.known.length nc6)).cell? ⟨w1.heap.size,2,none⟩=some (.slice na2 d0.st.lives.length nc2)∧(((((((wd.setCell ⟨gn,k*7,none⟩ (.int .i64 d0.self)).setCell ⟨gn,k*7+1,none⟩ (.slice na1 d0.st.clock.length nc1)).setCell ⟨gn,k*7+2,none⟩ (.slice na2 d0.st.lives.length nc2)).setCell ⟨gn,k*7+3,none⟩ (.slice na3 d0.st.tals.length nc3)).setCell ⟨gn,k*7+4,none⟩ (.slice na4 d0.base.length nc4)).setCell ⟨gn,k*7+5,none⟩ (.slice na5 d0.log.length nc5)).setCell ⟨gn,k*7+6,none⟩ (.slice na6 d0.known.length nc6)).cell? ⟨w1.heap.size,3,none⟩=some (.slice na3 d0.st.tals.length nc3)∧(((((((wd.setCell ⟨gn,k*7,none⟩ (.int .i64 d0.self)).setCell ⟨gn,k*7+1,none⟩ (.slice na1 d0.st.clock.length nc1)).setCell ⟨gn,k*7+2,none⟩ (.slice na2 d0.st.lives.length nc2)).setCell ⟨gn,k*7+3,none⟩ (.slice na3 d0.st.tals.length nc3)).setCell ⟨gn,k*7+4,none⟩ (.slice na4 d0.base.length nc4)).setCell ⟨gn,k*7+5,none⟩ (.slice na5 d0.log.length nc5)).setCell ⟨gn,k*7+6,none⟩ (.slice na6 d0.known.length nc6)).cell? ⟨w1.heap.size,4,none⟩=some (.slice na4 d0.base.length nc4)∧(((((((wd.setCell ⟨gn,k*7,none⟩ (.int .i64 d0.self)).setCell ⟨gn,k*7+1,none⟩ (.slice na1 d0.st.clock.length nc1)).setCell ⟨gn,k*7+2,none⟩ (.slice na2 d0.st.lives.length nc2)).setCell ⟨gn,k*7+3,none⟩ (.slice na3 d0.st.tals.length nc3)).setCell ⟨gn,k*7+4,none⟩ (.slice na4 d0.base.length nc4)).setCell ⟨gn,k*7+5,none⟩ (.slice na5 d0.log.length nc5)).setCell ⟨gn,k*7+6,none⟩ (.slice na6 d0.known.length nc6)).cell? ⟨w1.heap.size,5,none⟩=some (.slice na5 d0.log.length nc5)∧(((((((wd.setCell ⟨gn,k*7,none⟩ (.int .i64 d0.self)).setCell ⟨gn,k*7+1,none⟩ (.slice na1 d0.st.clock.length nc1)).setCell ⟨gn,k*7+2,none⟩ (.slice na2 d0.st.lives.length nc2)).setCell ⟨gn,k*7+3,none⟩ (.slice na3 d0.st.tals.length nc3)).setCell ⟨gn,k*7+4,none⟩ (.slice na4 d0.base.length nc4)).setCell ⟨gn,k*7+5,none⟩ (.slice na5 d0.log.length nc5)).setCell ⟨gn,k*7+6,none⟩ (.slice na6 d0.known.length nc6)).cell? ⟨w1.heap.size,6,none⟩=some (.slice na6 d0.known.length nc6):=⟨(Kp.box Gd.box (by decide)).get 0 rfl,Xp.get 0 rfl,Xp.get 1 rfl,Xp.get 2 rfl,Xp.get 3 rfl,Xp.get 4 rfl,Xp.get 5 rfl,Xp.get 6 rfl⟩;obtain⟨W5,HW5⟩:∃W5,Hid ((((((((wd.setCell ⟨gn,k*7,none⟩ (.int .i64 d0.self)).setCell ⟨gn,k*7+1,none⟩ (.slice na1 d0.st.clock.length nc1)).setCell ⟨gn,k*7+2,none⟩ (.slice na2 d0.st.lives.length nc2)).setCell ⟨gn,k*7+3,none⟩ (.slice na3 d0.st.tals.length nc3)).setCell ⟨gn,k*7+4,none⟩ (.slice na4 d0.base.length nc4)).setCell ⟨gn,k*7+5,none⟩ (.slice na5 d0.log.length nc5)).setCell ⟨gn,k*7+6,none⟩ (.slice na6 d0.known.length nc6))=W5):=⟨_,rfl⟩;rw[HW5.out]at Gx HBp HKp hs2
  try rw[HW5.out]
  refine hK.out _ _ hs2 (fun _=>?_);clear hK K hs2 c0 c1 c2 c3 c4 c5 c6 f0 f1 f2 f3 f4 f5 f6 Xp Gp Kp Gd Nd Xd
  try simp only[Act.put,Zt,Zs,Zr]
  refine wpAnyH_done (by kernel_rfl) ?_ _
  go_wp2_with fail
  go_ret
  exact⟨rfl,Gx,HKp,HBp⟩
 have he':(e0==0)=false:=by simp[he]
 rw[if_neg (fun hh=>he hh.2)];clear he
 go_enter Tryz.func97,Tryz.ntmps97
 go_wp2_with fail
 refine(Uo w B g W gn gw gr rv cv k HG.out).mono ?_;rintro e w' ⟨rfl,rfl⟩;rw[HBB.out]
 go_wp2_with fail
 go_at_fn fn
 refine HC.mono ?_;rintro e w1 ⟨v1,rfl,ho1,hb1⟩;obtain⟨na1,nc1,na2,nc2,na3,nc3,na4,nc4,na5,nc5,na6,nc6,hv1⟩:=ho1.form;subst hv1;have hbp:=bpl w1 (.cells #[.int .i64 d0.self,.slice na1 d0.st.clock.length nc1,.slice na2 d0.st.lives.length nc2,.slice na3 d0.st.tals.length nc3,.slice na4 d0.base.length nc4,.slice na5 d0.log.length nc5,.slice na6 d0.known.length nc6] 31);have hb2:=Zb hb1 hbp;have G2:=HG.below hb2;have N2:=(ho1.base (C:=B) hB).below hbp (nlr _);have X2:=Box.new w1 [.int .i64 d0.self,.slice na1 d0.st.clock.length nc1,.slice na2 d0.st.lives.length nc2,.slice na3 d0.st.tals.length nc3,.slice na4 d0.base.length nc4,.slice na5 d0.log.length nc5,.slice na6 d0.known.length nc6] 31;obtain⟨W2,HW2⟩:∃W2,Hid (w1.alloc (.cells #[.int .i64 d0.self,.slice na1 d0.st.clock.length nc1,.slice na2 d0.st.lives.length nc2,.slice na3 d0.st.tals.length nc3,.slice na4 d0.base.length nc4,.slice na5 d0.log.length nc5,.slice na6 d0.known.length nc6] 31)=W2):=⟨_,rfl⟩;rw[HW2.out]at hb2 G2 N2 X2;have HG2:=Za G2;have HN2:=Za N2;have HX2:=Za X2;have HB2:Hid (Below B w' W2):=hb2.mono hB;have HK2:Hid (Keeps Xi w' W2):=Keeps.below hb2;have hs1:Hid (w'.heap.size≤w1.heap.size):=hb1.size;clear g0 c0 c1 c2 c3 c4 c5 c6 G2 N2 X2 hb2 hbp hb1 ho1
 go_wp2_with fail
 rw[HW2.out];go_ret
 exact⟨rfl,HG2.out,HK2.out,HB2.out⟩
end Go.Proofs.YtfhecilhcofboaaGreat
/- world: what issues, what takes; a parcel that comes, or is lost. -/
namespace Go.Proofs.YtfhecilhcofboaaGreat
open Go.RowKit

set_option maxRecDepth 100000 in
set_option maxHeartbeats 2000000 in
theorem issueFn_w(v:Value)(d:NdS)(u:Upd)(gd:Nat)(sv:Value)(w:World)(h:Vp w v d)(hc0:w.cell? ⟨gd,3,none⟩=some (.int .i64 u.author))(hc1:w.cell? ⟨gd,4,none⟩=some (sv))(hc2:w.cell? ⟨gd,5,none⟩=some (.int .i64 u.kind))(hc3:w.cell? ⟨gd,6,none⟩=some (.int .i64 u.key))(hc4:w.cell? ⟨gd,7,none⟩=some (.int .i64 u.item))(hu:Jf w (.agg #[.int .i64 u.author,sv,.int .i64 u.kind,.int .i64 u.key,.int .i64 u.item]) u):
  Calls Tryz.prog 98 #[v,.pointer (some ⟨gd,0,none⟩)] w fun e w'=>∃rv,e=.returned (.tuple #[rv,.int .i64 (Ob d u)])∧Yo w' w.heap.size rv (Ou d u)∧Below w.heap.size w w':=by
 have hin:=h;obtain⟨da1,dc1,da2,dc2,da3,dc3,da4,dc4,da5,dc5,da6,dc6,rfl,-,-,-,-,-⟩:=h.form;have hb0:=Below.plus (bpl w (.cells #[.int .i64 d.self,.slice da1 d.st.clock.length dc1,.slice da2 d.st.lives.length dc2,.slice da3 d.st.tals.length dc3,.slice da4 d.base.length dc4,.slice da5 d.log.length dc5,.slice da6 d.known.length dc6] 31)) (.cells #[.int .i64 0,.slice none 0 0,.slice none 0 0,.slice none 0 0,.slice none 0 0,.slice none 0 0,.slice none 0 0] 31);have G0:=Za ((Box.new w [.int .i64 d.self,.slice da1 d.st.clock.length dc1,.slice da2 d.st.lives.length dc2,.slice da3 d.st.tals.length dc3,.slice da4 d.base.length dc4,.slice da5 d.log.length dc5,.slice da6 d.known.length dc6] 31).plus (.cells #[.int .i64 0,.slice none 0 0,.slice none 0 0,.slice none 0 0,.slice none 0 0,.slice none 0 0,.slice none 0 0] 31));have R0:=Za (Box.new (w.alloc (.cells #[.int .i64 d.self,.slice da1 d.st.clock.length dc1,.slice da2 d.st.lives.length dc2,.slice da3 d.st.tals.length dc3,.slice da4 d.base.length dc4,.slice da5 d.log.length dc5,.slice da6 d.known.length dc6] 31)) [.int .i64 0,.slice none 0 0,.slice none 0 0,.slice none 0 0,.slice none 0 0,.slice none 0 0,.slice none 0 0] 31);simp only[World.size_alloc]at R0;have D0:=Za (hin.below hb0 (nlr _));have HB0:=Za hb0;have c0:=(hb0.cell (p:=⟨gd,3,none⟩) (World.block_lt_of_cell? w _ hc0)).trans hc0;have c1:=(hb0.cell (p:=⟨gd,4,none⟩) (World.block_lt_of_cell? w _ hc1)).trans hc1;have c2:=(hb0.cell (p:=⟨gd,5,none⟩) (World.block_lt_of_cell? w _ hc2)).trans hc2;have c3:=(hb0.cell (p:=⟨gd,6,none⟩) (World.block_lt_of_cell? w _ hc3)).trans hc3;have c4:=(hb0.cell (p:=⟨gd,7,none⟩) (World.block_lt_of_cell? w _ hc4)).trans hc4;have U0:=Za (hu.below hb0 (nlr _));clear h hin hb0;obtain⟨W1,HW1⟩:∃W1,Hid ((w.alloc (.cells #[.int .i64 d.self,.slice da1 d.st.clock.length dc1,.slice da2 d.st.lives.length dc2,.slice da3 d.st.tals.length dc3,.slice da4 d.base.length dc4,.slice da5 d.log.length dc5,.slice da6 d.known.length dc6] 31)).alloc (.cells #[.int .i64 0,.slice none 0 0,.slice none 0 0,.slice none 0 0,.slice none 0 0,.slice none 0 0,.slice none 0 0] 31)=W1):=⟨_,rfl⟩;have hsz:Hid (W1.heap.size=w.heap.size+1+1):=by unfold Hid;rw[←HW1.out,World.size_alloc,World.size_alloc]
 rw[HW1.out]at G0 R0 D0 HB0 c0 c1 c2 c3 c4 U0;obtain⟨E,HE⟩:∃E,Hid (Ob d u=E):=⟨_,rfl⟩;obtain⟨X,HX⟩:∃X,Hid (Ou d u=X):=⟨_,rfl⟩;rw[HE.out,HX.out];obtain⟨g0,g1,g2,g3,g4,g5,g6⟩:=G0.c7
 go_enter Tryz.func98,Tryz.ntmps98
 go_upto_region 1 with fail
 rw[HW1.out]
 go_wp2_with fail
 refine(issue_node _ _ d u W1 D0.out U0.out).mono ?_;rintro e w2 ⟨rv,rfl,ho2,hb2⟩;rw[HE.out];rw[HX.out]at ho2;obtain⟨xa1,xc1,xa2,xc2,xa3,xc3,xa4,xc4,xa5,xc5,xa6,xc6,hrv⟩:=ho2.form;subst hrv;have R2:=Za (R0.below hb2 (nlr _));have HB2:=Za (Zb HB0.out hb2);have O2:=Za (ho2.base (C:=w.heap.size+2) (by have:=hsz.out;omega));clear ho2 hb2 G0 R0 D0 HB0 g0 g1 g2 g3 g4 g5 g6;have r0:=R2.get 0 rfl;have s0:=R2.free 0;have r1:=R2.get 1 rfl;have s1:=R2.free 1;have r2:=R2.get 2 rfl;have s2:=R2.free 2;have r3:=R2.get 3 rfl;have s3:=R2.free 3;have r4:=R2.get 4 rfl;have s4:=R2.free 4;have r5:=R2.get 5 rfl;have s5:=R2.free 5;have r6:=R2.get 6 rfl;have s6:=R2.free 6
 go_wp2_with fail
 have hR:=(((((((R2.set 0 (.int .i64 X.self)).set 1 (.slice xa1 X.st.clock.length xc1)).set 2 (.slice xa2 X.st.lives.length xc2)).set 3 (.slice xa3 X.st.tals.length xc3)).set 4 (.slice xa4 X.base.length xc4)).set 5 (.slice xa5 X.log.length xc5)).set 6 (.slice xa6 X.known.length xc6));have hV:=(((((((O2.away (g:=w.heap.size+1) (by omega) 0 (.int .i64 X.self)).away (g:=w.heap.size+1) (by omega) 1 (.slice xa1 X.st.clock.length xc1)).away (g:=w.heap.size+1) (by omega) 2 (.slice xa2 X.st.lives.length xc2)).away (g:=w.heap.size+1) (by omega) 3 (.slice xa3 X.st.tals.length xc3)).away (g:=w.heap.size+1) (by omega) 4 (.slice xa4 X.base.length xc4)).away (g:=w.heap.size+1) (by omega) 5 (.slice xa5 X.log.length xc5)).away (g:=w.heap.size+1) (by omega) 6 (.slice xa6 X.known.length xc6));refine bodyPost_ret (Zc rfl _ _ (w.heap.size+1) 31 _ (0,0) _ rfl hR Tryz.underlying31 rfl Tryz.sizeNode) rfl ⟨_,rfl,hV.base (by omega),?_⟩
 exact(((((((HB2.setCell (by show w.heap.size≤w.heap.size+1;omega) _).setCell (by show w.heap.size≤w.heap.size+1;omega) _).setCell (by show w.heap.size≤w.heap.size+1;omega) _).setCell (by show w.heap.size≤w.heap.size+1;omega) _).setCell (by show w.heap.size≤w.heap.size+1;omega) _).setCell (by show w.heap.size≤w.heap.size+1;omega) _).setCell (by show w.heap.size≤w.heap.size+1;omega) _)

set_option maxRecDepth 100000 in
set_option maxHeartbeats 2000000 in
theorem takeFn_w(v:Value)(d:NdS)(i:Int)(p:Pcl)(gf gp:Nat)(y0 y1 y2 y3 y4 y5:Value)(w:World)(h:Vp w v d)(hf:w.cell? ⟨gf,0,none⟩=some (.int .i64 i))(hc0:w.cell? ⟨gp,0,none⟩=some y0)(hc1:w.cell? ⟨gp,1,none⟩=some y1)(hc2:w.cell? ⟨gp,2,none⟩=some y2)(hc3:w.cell? ⟨gp,3,none⟩=some y3)(hc4:w.cell? ⟨gp,4,none⟩=some y4)(hc5:w.cell? ⟨gp,5,none⟩=some y5)(hp:IsPcl w (.agg #[y0,y1,y2,y3,y4,y5]) p):
  Calls Tryz.prog 121 #[v,.pointer (some ⟨gf,0,none⟩),.pointer (some ⟨gp,0,none⟩)] w fun e w'=>∃rv,e=.returned (.tuple #[rv,.int .i64 (Un d i p)])∧Yo w' w.heap.size rv (takeX d i p)∧Below w.heap.size w w':=by
 have hin:=h;obtain⟨da1,dc1,da2,dc2,da3,dc3,da4,dc4,da5,dc5,da6,dc6,rfl,-,-,-,-,-⟩:=h.form;have hb0:=Below.plus (bpl w (.cells #[.int .i64 d.self,.slice da1 d.st.clock.length dc1,.slice da2 d.st.lives.length dc2,.slice da3 d.st.tals.length dc3,.slice da4 d.base.length dc4,.slice da5 d.log.length dc5,.slice da6 d.known.length dc6] 31)) (.cells #[.int .i64 0,.slice none 0 0,.slice none 0 0,.slice none 0 0,.slice none 0 0,.slice none 0 0,.slice none 0 0] 31);have G0:=Za ((Box.new w [.int .i64 d.self,.slice da1 d.st.clock.length dc1,.slice da2 d.st.lives.length dc2,.slice da3 d.st.tals.length dc3,.slice da4 d.base.length dc4,.slice da5 d.log.length dc5,.slice da6 d.known.length dc6] 31).plus (.cells #[.int .i64 0,.slice none 0 0,.slice none 0 0,.slice none 0 0,.slice none 0 0,.slice none 0 0,.slice none 0 0] 31));have R0:=Za (Box.new (w.alloc (.cells #[.int .i64 d.self,.slice da1 d.st.clock.length dc1,.slice da2 d.st.lives.length dc2,.slice da3 d.st.tals.length dc3,.slice da4 d.base.length dc4,.slice da5 d.log.length dc5,.slice da6 d.known.length dc6] 31)) [.int .i64 0,.slice none 0 0,.slice none 0 0,.slice none 0 0,.slice none 0 0,.slice none 0 0,.slice none 0 0] 31);simp only[World.size_alloc]at R0;have D0:=Za (hin.below hb0 (nlr _));have HB0:=Za hb0;have cf:=(hb0.cell (p:=⟨gf,0,none⟩) (World.block_lt_of_cell? w _ hf)).trans hf;have c0:=(hb0.cell (p:=⟨gp,0,none⟩) (World.block_lt_of_cell? w _ hc0)).trans hc0;have c1:=(hb0.cell (p:=⟨gp,1,none⟩) (World.block_lt_of_cell? w _ hc1)).trans hc1;have c2:=(hb0.cell (p:=⟨gp,2,none⟩) (World.block_lt_of_cell? w _ hc2)).trans hc2;have c3:=(hb0.cell (p:=⟨gp,3,none⟩) (World.block_lt_of_cell? w _ hc3)).trans hc3;have c4:=(hb0.cell (p:=⟨gp,4,none⟩) (World.block_lt_of_cell? w _ hc4)).trans hc4;have c5:=(hb0.cell (p:=⟨gp,5,none⟩) (World.block_lt_of_cell? w _ hc5)).trans hc5;have P0:=Za (hp.below hb0 (nlr _));clear h hin hb0;obtain⟨W1,HW1⟩:∃W1,Hid ((w.alloc (.cells #[.int .i64 d.self,.slice da1 d.st.clock.length dc1,.slice da2 d.st.lives.length dc2,.slice da3 d.st.tals.length dc3,.slice da4 d.base.length dc4,.slice da5 d.log.length dc5,.slice da6 d.known.length dc6] 31)).alloc (.cells #[.int .i64 0,.slice none 0 0,.slice none 0 0,.slice none 0 0,.slice none 0 0,.slice none 0 0,.slice none 0 0] 31)=W1):=⟨_,rfl⟩;have hsz:Hid (W1.heap.size=w.heap.size+1+1):=by unfold Hid;rw[←HW1.out,World.size_alloc,World.size_alloc]
 rw[HW1.out]at G0 R0 D0 HB0 cf c0 c1 c2 c3 c4 c5 P0;obtain⟨E,HE⟩:∃E,Hid (Un d i p=E):=⟨_,rfl⟩;obtain⟨X,HX⟩:∃X,Hid (takeX d i p=X):=⟨_,rfl⟩;rw[HE.out,HX.out];obtain⟨g0,g1,g2,g3,g4,g5,g6⟩:=G0.c7
 go_enter Tryz.func121,Tryz.ntmps121
 go_upto_region 1 with fail
 rw[HW1.out]
 go_wp2_with fail
 refine(take_node _ _ d i p W1 D0.out P0.out).mono ?_;rintro e w2 ⟨rv,rfl,ho2,hb2⟩;rw[HE.out];rw[HX.out]at ho2;obtain⟨xa1,xc1,xa2,xc2,xa3,xc3,xa4,xc4,xa5,xc5,xa6,xc6,hrv⟩:=ho2.form;subst hrv;have R2:=Za (R0.below hb2 (nlr _));have HB2:=Za (Zb HB0.out hb2);have O2:=Za (ho2.base (C:=w.heap.size+2) (by have:=hsz.out;omega));clear ho2 hb2 G0 R0 D0 HB0 g0 g1 g2 g3 g4 g5 g6;have r0:=R2.get 0 rfl;have s0:=R2.free 0;have r1:=R2.get 1 rfl;have s1:=R2.free 1;have r2:=R2.get 2 rfl;have s2:=R2.free 2;have r3:=R2.get 3 rfl;have s3:=R2.free 3;have r4:=R2.get 4 rfl;have s4:=R2.free 4;have r5:=R2.get 5 rfl;have s5:=R2.free 5;have r6:=R2.get 6 rfl;have s6:=R2.free 6
 go_wp2_with fail
 have hR:=(((((((R2.set 0 (.int .i64 X.self)).set 1 (.slice xa1 X.st.clock.length xc1)).set 2 (.slice xa2 X.st.lives.length xc2)).set 3 (.slice xa3 X.st.tals.length xc3)).set 4 (.slice xa4 X.base.length xc4)).set 5 (.slice xa5 X.log.length xc5)).set 6 (.slice xa6 X.known.length xc6));have hV:=(((((((O2.away (g:=w.heap.size+1) (by omega) 0 (.int .i64 X.self)).away (g:=w.heap.size+1) (by omega) 1 (.slice xa1 X.st.clock.length xc1)).away (g:=w.heap.size+1) (by omega) 2 (.slice xa2 X.st.lives.length xc2)).away (g:=w.heap.size+1) (by omega) 3 (.slice xa3 X.st.tals.length xc3)).away (g:=w.heap.size+1) (by omega) 4 (.slice xa4 X.base.length xc4)).away (g:=w.heap.size+1) (by omega) 5 (.slice xa5 X.log.length xc5)).away (g:=w.heap.size+1) (by omega) 6 (.slice xa6 X.known.length xc6));refine bodyPost_ret (Zc rfl _ _ (w.heap.size+1) 31 _ (0,0) _ rfl hR Tryz.underlying31 rfl Tryz.sizeNode) rfl ⟨_,rfl,hV.base (by omega),?_⟩
 exact(((((((HB2.setCell (by show w.heap.size≤w.heap.size+1;omega) _).setCell (by show w.heap.size≤w.heap.size+1;omega) _).setCell (by show w.heap.size≤w.heap.size+1;omega) _).setCell (by show w.heap.size≤w.heap.size+1;omega) _).setCell (by show w.heap.size≤w.heap.size+1;omega) _).setCell (by show w.heap.size≤w.heap.size+1;omega) _).setCell (by show w.heap.size≤w.heap.size+1;omega) _)

theorem egDel:∀args w,(callFunc 121 args).run Tryz.prog w=.ok (.enter 121 args) w:=enters_of Tryz.func121 (by kernel_rfl) rfl
theorem nodeAt_next(W:WdS)(a b i:Int):Xa (zN W a b) i=Xa W i:=by unfold Xa;rw[Om]

set_option maxRecDepth 100000 in
set_option maxHeartbeats 2000000 in
theorem drop_w(w:World)(B g:Nat)(W:WdS)(gn gw:Nat)(gr:Nat→Nat)(rv:Nat→List Value)(cv:Value)(a b:Nat)(h:GoX w B g W gn gw gr rv cv)(hB:B≤w.heap.size)(ha:a<W.nodes.length)(hb:b<W.nodes.length):
  Calls Tryz.prog 102 #[.pointer (some ⟨g,0,none⟩),.int .i64 a,.int .i64 b] w fun e w'=>e=.returned (.int .i64 (nextE W a b))∧(∃rv',GoX w' B g (zN W a b) gn gw gr rv' cv)∧Keeps Xi w w'∧Below B w w':=by
 have HC:=Za (next_w w B g W gn gw gr rv cv a b h hB ha hb);clear h
 go_enter Tryz.func102,Tryz.ntmps102
 go_wp2_with fail
 refine HC.mono ?_;rintro e w1 ⟨v1,rfl,⟨rv',hx⟩,hp,hk,hb1⟩;obtain⟨p,HP⟩:∃p,Hid (nextP W a b=p):=⟨_,rfl⟩;rw[HP.out]at hp;obtain⟨pa1,pc1,pa2,pc2,pa3,pc3,pa4,pc4,pa5,pc5,hv,-⟩:=hp.pcl.form;subst hv;have hbp:=bpl w1 (.cells #[.bool p.whole,.slice pa1 p.st.clock.length pc1,.slice pa2 p.st.lives.length pc2,.slice pa3 p.st.tals.length pc3,.slice pa4 p.ups.length pc4,.slice pa5 p.clock.length pc5] 35);have HX:=Za (hx.below hbp);have HK:Hid (Keeps Xi w (w1.alloc (.cells #[.bool p.whole,.slice pa1 p.st.clock.length pc1,.slice pa2 p.st.lives.length pc2,.slice pa3 p.st.tals.length pc3,.slice pa4 p.ups.length pc4,.slice pa5 p.clock.length pc5] 35))):=hk.trans (Keeps.below hbp);have HBB:Hid (Below B w (w1.alloc (.cells #[.bool p.whole,.slice pa1 p.st.clock.length pc1,.slice pa2 p.st.lives.length pc2,.slice pa3 p.st.tals.length pc3,.slice pa4 p.ups.length pc4,.slice pa5 p.clock.length pc5] 35))):=hb1.trans (hbp.mono (by have:=hb1.size;omega));clear hx hk hb1 hp hbp
 go_wp2_with fail
 go_ret
 exact⟨rfl,⟨_,HX.out⟩,HK.out,HBB.out⟩

set_option maxRecDepth 100000 in
set_option maxHeartbeats 4000000 in
theorem deliver_w(w:World)(B g:Nat)(W:WdS)(gn gw:Nat)(gr:Nat→Nat)(rv:Nat→List Value)(cv:Value)(a b:Nat)(h:GoX w B g W gn gw gr rv cv)(hB:B≤w.heap.size)(ha:a<W.nodes.length)(hb:b<W.nodes.length):
  Calls Tryz.prog 101 #[.pointer (some ⟨g,0,none⟩),.int .i64 a,.int .i64 b] w fun e w'=>e=.returned (.int .i64 (wdelE W a b))∧(∃rv',GoX w' B g (wdelX W a b) gn gw gr rv' cv)∧Keeps Xi w w'∧Below B w w':=by
 have hb0:=bpl w (.cells #[.int .i64 (a:Int)] 3);have F0:=Za (Box.new w [.int .i64 (a:Int)] 3);have G0:=h.below hb0;obtain⟨W1,HW1⟩:∃W1,Hid (w.alloc (.cells #[.int .i64 (a:Int)] 3)=W1):=⟨_,rfl⟩;have hsz:Hid (W1.heap.size=w.heap.size+1):=by unfold Hid;rw[←HW1.out,World.size_alloc]
 rw[HW1.out]at hb0 F0 G0;have HB0:Hid (Below B w W1):=hb0.mono hB;have HK0:Hid (Keeps Xi w W1):=Keeps.below hb0;have HC:=Za (next_w W1 B g W gn gw gr rv cv a b G0 (by have:=hsz.out;omega) ha hb);obtain⟨N,HN⟩:∃N,Hid (nextE W a b=N):=⟨_,rfl⟩;obtain⟨E,HE⟩:∃E,Hid (wdelE W a b=E):=⟨_,rfl⟩;obtain⟨X,HX⟩:∃X,Hid (wdelX W a b=X):=⟨_,rfl⟩;rw[HE.out,HX.out];clear h G0 hb0;have f0:=F0.get 0 rfl
 go_enter Tryz.func101,Tryz.ntmps101
 go_upto_region 1 with fail
 rw[HW1.out]
 go_wp2_with fail
 refine HC.mono ?_;rintro e w2 ⟨v2,rfl,⟨rv',hx⟩,hp,hk,hb2⟩;rw[HN.out];obtain⟨p,HP⟩:∃p,Hid (nextP W a b=p):=⟨_,rfl⟩;rw[HP.out]at hp;obtain⟨pa1,pc1,pa2,pc2,pa3,pc3,pa4,pc4,pa5,pc5,hv,-⟩:=hp.pcl.form;subst hv;have hbp:=bpl w2 (.cells #[.bool p.whole,.slice pa1 p.st.clock.length pc1,.slice pa2 p.st.lives.length pc2,.slice pa3 p.st.tals.length pc3,.slice pa4 p.ups.length pc4,.slice pa5 p.clock.length pc5] 35);have X3:=hx.below hbp;have P3:=hp.below hbp (nlr _);have B3:=Box.new w2 [.bool p.whole,.slice pa1 p.st.clock.length pc1,.slice pa2 p.st.lives.length pc2,.slice pa3 p.st.tals.length pc3,.slice pa4 p.ups.length pc4,.slice pa5 p.clock.length pc5] 35;have F3:=(hk.box F0.out (by decide)).below hbp (nlr _);obtain⟨W3,HW3⟩:∃W3,Hid (w2.alloc (.cells #[.bool p.whole,.slice pa1 p.st.clock.length pc1,.slice pa2 p.st.lives.length pc2,.slice pa3 p.st.tals.length pc3,.slice pa4 p.ups.length pc4,.slice pa5 p.clock.length pc5] 35)=W3):=⟨_,rfl⟩;rw[HW3.out]at hbp X3 P3 B3 F3;have hs2:=hb2.size;have HK3:Hid (Keeps Xi w W3):=(HK0.trans hk).trans (Keeps.below hbp);have HB3:Hid (Below B w W3):=(HB0.trans hb2).trans (hbp.mono (by have:=hsz.out;omega));have HX3:=Za X3;have HF3:=Za F3;have HB33:=Za B3;have HP3:=Za P3;have hsz3:Hid (B≤W3.heap.size):=by have:=hbp.size;have:=hsz.out;unfold Hid;omega
 clear hx hk hb2 hp hbp X3 P3 B3 F3 f0
 by_cases hN:N=0
 ·subst hN
  have hE:changeE (zN W a b) b (Un (Xa W b) a p)=E:=by
   rw[←HE.out,←HP.out];unfold wdelE changeE;rw[if_pos HN.out,if_pos (isNB_iff.2 ⟨by omega,by rw[Om];omega⟩)]
  have hX:yI (zN W a b) b (Un (Xa W b) a p) (takeX (Xa W b) a p)=X:=by
   rw[←HX.out,←HP.out];unfold wdelX;rw[if_pos HN.out]
  have HCH:=Za (change_w 121 #[.pointer (some ⟨w.heap.size,0,none⟩),.pointer (some ⟨w2.heap.size,0,none⟩)] egDel W3 B g (zN W a b) gn gw gr rv' cv b (Un (Xa W b) a p) (takeX (Xa W b) a p) HX3.out hsz3.out
   (fun v hv _=>by
    rw[nodeAt_next]at hv
    exact takeFn_w v (Xa W b) a p w.heap.size w2.heap.size _ _ _ _ _ _ W3 hv (HF3.get 0 rfl) (HB33.get 0 rfl) (HB33.get 1 rfl) (HB33.get 2 rfl) (HB33.get 3 rfl) (HB33.get 4 rfl) (HB33.get 5 rfl) HP3.pcl))
  rw[hE,hX]at HCH;clear hE hX
  go_upto_region 4 with fail
  rw[HW3.out]
  go_wp2_with fail
  refine HCH.mono ?_;rintro e w4 ⟨rfl,hx4,hk4,hb4⟩;have HX4:=Za hx4;have HK4:Hid (Keeps Xi w w4):=HK3.trans hk4;have HB4:Hid (Below B w w4):=HB3.trans hb4;clear hx4 hk4 hb4
  go_wp2_with fail
  go_ret
  exact⟨rfl,⟨_,HX4.out⟩,HK4.out,HB4.out⟩
 have hN':(N != 0)=true:=by simp[hN]
 have hE:N=E:=by
  rw[←HE.out];unfold wdelE;rw[if_neg (by rw[HN.out];exact hN),HN.out]
 have hX:zN W a b=X:=by
  rw[←HX.out];unfold wdelX;rw[if_neg (by rw[HN.out];exact hN)];unfold zN;unfold nextE at HN
  by_cases hl:(Oi W a b).length=0
  ·rw[if_pos hl]
  have hh:=HN.out;rw[if_neg hl]at hh;exact absurd hh.symm hN
 subst hE;rw[hX]at HX3;clear hN hX
 go_wp2_with fail
 rw[HW3.out];go_ret
 exact⟨rfl,⟨_,HX3.out⟩,HK3.out,HB3.out⟩
end Go.Proofs.YtfhecilhcofboaaGreat
