/- Worlds, as lists: what comes of each thing that happens, and what stays true whatever happens. -/
import Derived.Test.YtfhecilhcofboaaGreatNdPure
namespace Go.Proofs.YtfhecilhcofboaaGreat
open Go.RowKit

structure WdS where
 nodes:List NdS
 way:List (List (List Pcl))
structure DoS where
 kind:Int
 n:Int
 dst:Int
 upd:Upd

def Xa(w:WdS)(i:Int):NdS:=w.nodes.getD i.toNat Yu
def Oi(w:WdS)(a b:Int):List Pcl:=(w.way.getD a.toNat []).getD b.toNat []
def Ow(w:WdS)(i:Int)(d:NdS):WdS:=⟨w.nodes.set i.toNat d,w.way⟩
def Qy(w:WdS)(a b:Int)(l:List Pcl):WdS:=⟨w.nodes,w.way.set a.toNat ((w.way.getD a.toNat []).set b.toNat l)⟩
def isNB(w:WdS)(i:Int):Bool:=decide (0≤i∧i<w.nodes.length)
def twoE(w:WdS)(a b e:Int):Int:=if isNB w a=true∧isNB w b=true then(if a=b then 7 else e)else 6
def changeE(w:WdS)(i e:Int):Int:=if isNB w i=true then e else 6
def yI(w:WdS)(i e:Int)(d:NdS):WdS:=if isNB w i=true∧e=0 then Ow w i d else w
def wsendE(w:WdS)(a b:Int):Int:=if 20≤(Oi w a b).length then 5 else Jj (Xa w a) b
def wsendX(w:WdS)(a b:Int):WdS:=if wsendE w a b=0 then Qy w a b (Oi w a b++[sendX (Xa w a) b])else w
def nextE(w:WdS)(a b:Int):Int:=if(Oi w a b).length=0 then 6 else 0
def nextP(w:WdS)(a b:Int):Pcl:=(Oi w a b).headD noPcl
def zN(w:WdS)(a b:Int):WdS:=if(Oi w a b).length=0 then w else Qy w a b (Oi w a b).tail
def wdelE(w:WdS)(a b:Int):Int:=if nextE w a b=0 then Un (Xa w b) a (nextP w a b)else nextE w a b
def wdelX(w:WdS)(a b:Int):WdS:=if nextE w a b=0 then yI (zN w a b) b (Un (Xa w b) a (nextP w a b)) (takeX (Xa w b) a (nextP w a b))else w
def Xk(w:WdS)(o:DoS):Int:=
 if o.kind=1 then changeE w o.n (Ob (Xa w o.n) o.upd)
 else if o.kind=2 then twoE w o.n o.dst (wsendE w o.n o.dst)
 else if o.kind=3 then twoE w o.n o.dst (wdelE w o.n o.dst)
 else if o.kind=4 then twoE w o.n o.dst (nextE w o.n o.dst)
 else if o.kind=5 then changeE w o.n (Vi (Xa w o.n))
 else 1
def twoX(w:WdS)(a b:Int)(x:WdS):WdS:=if isNB w a=true∧isNB w b=true∧¬a=b then x else w
def stepX(w:WdS)(o:DoS):WdS:=
 if o.kind=1 then yI w o.n (Ob (Xa w o.n) o.upd) (Ou (Xa w o.n) o.upd)
 else if o.kind=2 then twoX w o.n o.dst (wsendX w o.n o.dst)
 else if o.kind=3 then twoX w o.n o.dst (wdelX w o.n o.dst)
 else if o.kind=4 then twoX w o.n o.dst (zN w o.n o.dst)
 else if o.kind=5 then yI w o.n (Vi (Xa w o.n)) (yM (Xa w o.n))
 else w
def Uy(n:Nat):WdS:=⟨(List.range n).map fun(i:Nat)=>Uu (i:Int) n,List.replicate n (List.replicate n [])⟩
def runX(w:WdS)(l:List DoS):WdS:=l.foldl stepX w
def runE:WdS→List DoS→List Int
 |_,[]=>[]
 |w,o::r=>Xk w o::runE (stepX w o) r
theorem runX_snoc(w:WdS)(l:List DoS)(o:DoS):runX w (l++[o])=stepX (runX w l) o:=by unfold runX;rw[List.foldl_append];rfl
theorem runE_snoc(o:DoS):∀(l:List DoS) (w:WdS),runE w (l++[o])=runE w l++[Xk (runX w l) o]
 |[],w=>rfl
 |p::r,w=>by rw[List.cons_append,runE,runE_snoc o r];rfl
theorem runE_length:∀(l:List DoS) (w:WdS),(runE w l).length=l.length
 |[],_=>rfl
 |o::r,w=>by rw[runE,List.length_cons,runE_length r,List.length_cons]
section
variable {n:Int}{A:List Upd}
end
end Go.Proofs.YtfhecilhcofboaaGreat
/- What stays true of a world, whatever happens. -/
namespace Go.Proofs.YtfhecilhcofboaaGreat
open Go.RowKit

section
variable {n:Int}{A:List Upd}{w:WdS}
theorem zD{α:Type}{l:List α}{i k:Nat}{x d:α}(h:i<l.length):(l.set i x).getD k d=if k=i then x else l.getD k d:=by
 rw[List.getD_eq_getElem?_getD,List.getD_eq_getElem?_getD,List.getElem?_set]
 by_cases e:i=k
 ·subst e;rw[if_pos rfl,if_pos h,if_pos rfl];rfl
 rw[if_neg e,if_neg (fun hh=>e hh.symm)]
theorem isNB_iff{i:Int}:isNB w i=true↔0≤i∧i<w.nodes.length:=by unfold isNB;exact decide_eq_true_iff
theorem isNB_nat{i:Int}(h:isNB w i=true):∃k:Nat,i=k∧k<w.nodes.length:=by
 have:=isNB_iff.1 h;exact⟨i.toNat,by omega,by omega⟩
theorem Om(w:WdS)(a b:Int):(zN w a b).nodes=w.nodes:=by unfold zN;split <;> rfl
theorem begin_len(k:Nat):(Uy k).nodes.length=k:=by unfold Uy;simp
theorem begin_way{k a b:Nat}:((Uy k).way.getD a []).getD b []=[]:=by
 unfold Uy
 simp only
 rw[List.getD_eq_getElem?_getD (l:=List.replicate k (List.replicate k ([]:List Pcl))),List.getElem?_replicate]
 split
 ·simp only[Option.getD_some];rw[List.getD_eq_getElem?_getD,List.getElem?_replicate]
  split <;> rfl
 simp
end
end Go.Proofs.YtfhecilhcofboaaGreat
/- What is read in a world, what is refused, and what pruning changes: as lists. -/
namespace Go.Proofs.YtfhecilhcofboaaGreat
open Go.RowKit

section
variable {n:Int}{A:List Upd}{w x:WdS}
theorem setNode_nodes(w:WdS)(i:Int)(d:NdS):(Ow w i d).nodes=w.nodes.set i.toNat d:=rfl
theorem take_snoc{α:Type}{l:List α}{k:Nat}{o:α}(h:l[k]? =some o):l.take (k+1)=l.take k++[o]:=by
 rw[List.take_add_one,h];rfl
theorem stepX_len(w:WdS)(o:DoS):(stepX w o).nodes.length=w.nodes.length:=by
 unfold stepX yI twoX wsendX wdelX
 split
 ·split <;> simp[Ow]
 split
 ·split
  ·split <;> simp[Qy]
  rfl
 split
 ·split
  ·split
   ·unfold yI
    split
    ·rw[setNode_nodes,List.length_set,Om]
    rw[Om]
   rfl
  rfl
 split
 ·split
  ·rw[Om]
  rfl
 split
 ·split <;> simp[Ow]
 rfl
theorem runX_len:∀(l:List DoS) (w:WdS),(runX w l).nodes.length=w.nodes.length
 |[],_=>rfl
 |o::r,w=>by
  show(runX (stepX w o) r).nodes.length=_
  rw[runX_len r,stepX_len]
end
end Go.Proofs.YtfhecilhcofboaaGreat
