/- A slice of integers that came in as an argument reads as a list of numbers. -/
import Derived.Test.YtfhecilhcofboaaGreatBase
import Derived.Test.YtfhecilhcofboaaGreatLogA
import Derived.ProofKit
import Derived.OpenShut
import Derived.ShutString
import Derived.ChangeOld
import Derived.Below
import Derived.Deep.Slices
import Derived.Test.YtfhecilhcofboaaGreatWdD
namespace Go.Proofs.YtfhecilhcofboaaGreat
open Go.RowKit

theorem addr_add(b off j:Nat):(⟨b,off,none⟩:Addr).add j=⟨b,off+j,none⟩:=by
 simp only[Addr.add]
 split
 ·next e=>rw[e];rfl
 rfl

theorem row_of_cells{w:World}{a:Option Addr}{len cap:Nat}{zs:List Int}
  (h:(a=none∧len=0∧cap=0∧zs=[])∨∃x,a=some x∧len≤cap∧cap≤maxLen∧zs.length=cap∧(∀i,i<zs.length→w.cell? (x.add i)=some (.int .i64 (zs.getD i 0)))∧∀n ∈ zs,(Lit.int .i64 n).wf=true):
  Row w (.slice a len cap) (zs.take len):=by
 rcases h with⟨rfl,rfl,rfl,rfl⟩|⟨x,rfl,h1,h2,h3,h4,-⟩
 ·exact⟨none,0,rfl,by simp,by unfold maxLen;omega,fun i hi=>by simp at hi⟩
 have hl:(zs.take len).length=len:=by rw[List.length_take];omega
 refine⟨some x,cap,by rw[hl],by omega,h2,fun i hi=>?_⟩;rw[hl]at hi;have hc:=h4 i (by omega);obtain⟨b,off,spot⟩:=x;have hspot:spot=none:=by simpa[Addr.add]using World.cell?_spot (h4 0 (by omega))
 subst hspot;rw[addr_add]at hc;refine⟨b,off,rfl,?_⟩;rw[hc];have h5:(zs.take len).getD i 0=zs.getD i 0:=by simp[List.getD,hi]
 rw[h5]
end Go.Proofs.YtfhecilhcofboaaGreat
/- What came in as data: a clock, an update, a log. -/
namespace Go.Proofs.YtfhecilhcofboaaGreat
open Go.ChangeShapes Go.WideShapes Go.ChangeAt Go.RowKit Go.Deep

set_option maxRecDepth 100000 in
theorem list5{α:Type}{l:List α}(h:l.length=5):∃a b c d e,l=[a,b,c,d,e]:=by
 match l,h with
 |[a,b,c,d,e],_=>exact⟨a,b,c,d,e,rfl⟩

set_option maxRecDepth 100000 in
theorem Tryz.cellsInt:Tryz.prog.cellsOf 3=1:=by kernel_rfl
set_option maxRecDepth 100000 in
theorem Tryz.cellsUpd:Tryz.prog.cellsOf 33=5:=by kernel_rfl

section
variable {H:Type}{enc:TypeId×Value→H}{w:World}{base:Nat}{held:Bool}

set_option maxRecDepth 100000 in
theorem open_clock{fuel:Nat}{c:Value}{x:DataW H×List MemPlace}(h:DataW.trod enc Tryz.prog w base (fun _=>true) held fuel 23 [c]=some x):∃xs,Row w c xs:=by
 rcases open_ints Tryz.underlying23 Tryz.underlying3 Tryz.cellsInt h with⟨hcs,_⟩|⟨a,l,cp,zs,hcs,_,hl,hm,hz,_,hcell,hwz⟩
 ·simp only[List.cons.injEq,and_true]at hcs;subst hcs;exact⟨[],by simpa using row_of_cells (w:=w) (zs:=[]) (.inl ⟨rfl,rfl,rfl,rfl⟩)⟩
 simp only[List.cons.injEq,and_true]at hcs;subst hcs;exact⟨_,row_of_cells (.inr ⟨a,rfl,hl,hm,by simpa using hz,hcell,hwz⟩)⟩

set_option maxRecDepth 100000 in
theorem open_upd5{fuel:Nat}{cs:List Value}{x:DataW H×List MemPlace}(h:DataW.trod enc Tryz.prog w base (fun _=>true) held fuel 33 cs=some x):
  ∃(u:Upd) (sv:Value),cs=[.int .i64 u.author,sv,.int .i64 u.kind,.int .i64 u.key,.int .i64 u.item]∧Row w sv u.seen∧(Lit.int .i64 u.author).wf=true∧(Lit.int .i64 u.kind).wf=true∧(Lit.int .i64 u.key).wf=true∧(Lit.int .i64 u.item).wf=true:=by
 obtain⟨xs,n,_,_,hl,hlen,hf⟩:=DataW.trod_struct Tryz.underlying33 h;rw[Tryz.cellsUpd]at hl;obtain⟨c0,c1,c2,c3,c4,rfl⟩:=list5 hl;have hlen':xs.length=5:=hlen;obtain⟨y0,y1,y2,y3,y4,rfl⟩:=list5 hlen';have f0:=hf 0 _ rfl;have f1:=hf 1 _ rfl;have f2:=hf 2 _ rfl;have f3:=hf 3 _ rfl;have f4:=hf 4 _ rfl;simp only[List.getElem?_cons_zero,List.getElem?_cons_succ]at f0 f1 f2 f3 f4;obtain⟨a0,e0,-,w0⟩:=DataW.trod_int Tryz.underlying3 f0;obtain⟨a2,e2,-,w2⟩:=DataW.trod_int Tryz.underlying3 f2;obtain⟨a3,e3,-,w3⟩:=DataW.trod_int Tryz.underlying3 f3;obtain⟨a4,e4,-,w4⟩:=DataW.trod_int Tryz.underlying3 f4;obtain⟨sx,hrow⟩:=open_clock f1;obtain rfl:c0=_:=List.head_eq_of_cons_eq e0;obtain rfl:c2=_:=List.head_eq_of_cons_eq e2;obtain rfl:c3=_:=List.head_eq_of_cons_eq e3;obtain rfl:c4=_:=List.head_eq_of_cons_eq e4;exact⟨⟨a0,sx,a2,a3,a4⟩,c1,rfl,hrow,w0,w2,w3,w4⟩

end
end Go.Proofs.YtfhecilhcofboaaGreat
/- What came in as data: a list of things that happen. -/
namespace Go.Proofs.YtfhecilhcofboaaGreat
open Go.ChangeShapes Go.WideShapes Go.ChangeAt Go.RowKit Go.Deep

theorem list8W{α:Type}{l:List α}(h:l.length=8):∃a b c d e f g i,l=[a,b,c,d,e,f,g,i]:=by
 match l,h with
 |[a,b,c,d,e,f,g,i],_=>exact⟨a,b,c,d,e,f,g,i,rfl⟩
theorem list4W{α:Type}{l:List α}(h:l.length=4):∃a b c d,l=[a,b,c,d]:=by
 match l,h with
 |[a,b,c,d],_=>exact⟨a,b,c,d,rfl⟩
theorem list_ofD{α:Type}{Q:Nat→α→Prop}:∀{n:Nat},(∀i,i<n→∃u,Q i u)→∃l:List α,l.length=n∧∀i u,l[i]? =some u→Q i u
 |0,_=>⟨[],rfl,fun i u h=>by simp at h⟩
 |n+1,h=>by
  obtain⟨l,h1,h2⟩:=list_ofD (n:=n) (fun i hi=>h i (by omega));obtain⟨u,hu⟩:=h n (by omega);refine⟨l++[u],by simp[h1],fun i v hi=>?_⟩
  rcases Nat.lt_or_ge i n with hlt|hge
  ·rw[List.getElem?_append_left (by omega)]at hi;exact h2 i v hi
  rw[List.getElem?_append_right (by omega)]at hi
  have:i - l.length=0:=by
   rcases Nat.eq_zero_or_pos (i - l.length)with h0|h0
   ·exact h0
   rw[List.getElem?_eq_none (by simp;omega)]at hi;cases hi
  rw[this]at hi
  simp at hi
  subst hi;rw[show i=n by omega];exact hu

set_option maxRecDepth 100000 in
theorem Tryz.cellsDo:Tryz.prog.cellsOf 98=8:=by kernel_rfl
section
variable {H:Type}{enc:TypeId×Value→H}{w:World}{base:Nat}{held:Bool}

set_option maxRecDepth 100000 in
theorem open_do8{fuel:Nat}{cs:List Value}{x:DataW H×List MemPlace}(h:DataW.trod enc Tryz.prog w base (fun _=>true) held fuel 98 cs=some x):
  ∃(o:DoS) (sv:Value),cs=[.int .i64 o.kind,.int .i64 o.n,.int .i64 o.dst,.int .i64 o.upd.author,sv,.int .i64 o.upd.kind,.int .i64 o.upd.key,.int .i64 o.upd.item]∧Row w sv o.upd.seen:=by
 obtain⟨xs,n,_,_,hl,hlen,hf⟩:=DataW.trod_struct Tryz.underlying98 h;rw[Tryz.cellsDo]at hl;obtain⟨c0,c1,c2,c3,c4,c5,c6,c7,rfl⟩:=list8W hl;have hlen':xs.length=4:=hlen;obtain⟨y0,y1,y2,y3,rfl⟩:=list4W hlen';have f0:=hf 0 _ rfl;have f1:=hf 1 _ rfl;have f2:=hf 2 _ rfl;have f3:=hf 3 _ rfl;simp only[List.getElem?_cons_zero,List.getElem?_cons_succ]at f0 f1 f2 f3;obtain⟨a0,e0,-,-⟩:=DataW.trod_int Tryz.underlying3 f0;obtain⟨a1,e1,-,-⟩:=DataW.trod_int Tryz.underlying3 f1;obtain⟨a2,e2,-,-⟩:=DataW.trod_int Tryz.underlying3 f2;obtain⟨u,sv,e3,hrow,-⟩:=open_upd5 f3;obtain rfl:c0=_:=List.head_eq_of_cons_eq e0;obtain rfl:c1=_:=List.head_eq_of_cons_eq e1;obtain rfl:c2=_:=List.head_eq_of_cons_eq e2;have e3':[c3,c4,c5,c6,c7]=[.int .i64 u.author,sv,.int .i64 u.kind,.int .i64 u.key,.int .i64 u.item]:=e3;simp only[List.cons.injEq,and_true]at e3';obtain⟨rfl,rfl,rfl,rfl,rfl⟩:=e3';exact⟨⟨a0,a1,a2,u⟩,c4,rfl,hrow⟩
set_option maxRecDepth 100000 in
theorem open_dos{r:Reach}{b0:Nat}{v:Value}{d:DataW H}{p:List MemPlace}(hv:Value.okWide Tryz.prog w r b0 48 v)
  (h:DataW.Trod enc Tryz.prog w base (fun _=>true) held 48 v d p):∃l,DoV w v l:=by
 obtain⟨a,len,cap,rfl⟩:=okWide_slice Tryz.underlying48 hv;obtain⟨fuel,hf⟩:=h
 rcases open_slice Tryz.underlying48 hf with⟨hcs,-⟩|⟨x,l,cp,m,n,D,Pl,hcs,hb,hl,hm,hmm,-,hcell⟩
 ·simp[Value.cells]at hcs
  obtain⟨rfl,rfl,rfl⟩:=hcs;exact⟨[],none,0,rfl,by simp,by unfold maxLen;omega,fun i o hi=>by simp at hi⟩
 simp[Value.cells]at hcs
 obtain⟨rfl,rfl,rfl⟩:=hcs;simp only[if_true]at hmm
 have each:∀i,i<len→∃o,∀b off,x=⟨b,off,none⟩→DoAt w b (off+i*8) o:=by
  intro i hi;obtain⟨cs',h1,h2⟩:=hcell i (by omega);obtain⟨o,sv,rfl,hrow⟩:=open_do8 h2;rw[Tryz.cellsDo]at h1;refine⟨o,fun b off e=>?_⟩;subst e;have c:=(World.cells?_some h1).2.2;simp only[addr_add]at c;exact⟨sv,hrow,c 0 (by omega),c 1 (by omega),c 2 (by omega),c 3 (by omega),c 4 (by omega),c 5 (by omega),c 6 (by omega),c 7 (by omega)⟩
 obtain⟨L,hL,hP⟩:=list_ofD each;refine⟨L,some x,cap,by rw[hL],by omega,hm,fun i u hi=>?_⟩;have hil:i<len:=by rw[←hL];exact(List.getElem?_eq_some_iff.1 hi).1
 obtain⟨b,off,spot⟩:=x
 have hspot:spot=none:=by
  obtain⟨cs',h1,-⟩:=hcell 0 (by omega);rw[Tryz.cellsDo]at h1;obtain⟨-,hl5,hc⟩:=World.cells?_some h1;have h0:=hc 0 (by omega);rw[List.getElem?_eq_getElem (by omega)]at h0
  simpa[Addr.add]using World.cell?_spot h0
 subst hspot;exact⟨b,off,rfl,hP i u hi b off rfl⟩
end
end Go.Proofs.YtfhecilhcofboaaGreat
