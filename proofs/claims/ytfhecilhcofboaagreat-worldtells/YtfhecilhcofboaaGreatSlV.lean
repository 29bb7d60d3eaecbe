/- Slices of plain records, of so many cells each: reading, owning, cutting. (For lives and tallies.) Slices of plain records of the call's own: what a block holds, stores into it, copies. -/
import Derived.Test.YtfhecilhcofboaaGreatLogC
import Derived.Test.YtfhecilhcofboaaGreatClone
import Derived.Lib.AppendZerosOnto
import Derived.Lib.Overlaps
namespace Go.Proofs.YtfhecilhcofboaaGreat
open Go.RowKit

section
variable {α:Type}{sz:Nat}{enc:α→List Value}

def Yf(sz:Nat)(enc:α→List Value)(w:World)(v:Value)(l:List α):Prop:=
 ∃(a:Option Addr) (cap:Nat),v=.slice a l.length cap∧l.length≤cap∧cap≤maxLen∧
  ∀i x,l[i]? =some x→∃b off,a=some ⟨b,off,none⟩∧∀j c,(enc x)[j]? =some c→w.cell? ⟨b,off+i*sz+j,none⟩=some c
theorem Yf.below{w w':World}{v:Value}{l:List α}(h:Yf sz enc w v l){B:Nat}(hb:Below B w w')(hB:w.heap.size≤B):Yf sz enc w' v l:=by
 obtain⟨a,cap,h1,h2,h3,h4⟩:=h;refine⟨a,cap,h1,h2,h3,fun i x hi=>?_⟩;obtain⟨b,off,h5,h6⟩:=h4 i x hi;refine⟨b,off,h5,fun j c hj=>?_⟩;have h7:=h6 j c hj
 exact(hb.cell (p:=⟨b,_,none⟩) (Nat.lt_of_lt_of_le (World.block_lt_of_cell? w _ h7) hB)).trans h7
theorem Yf.alloc{w:World}{v:Value}{l:List α}(h:Yf sz enc w v l)(o:Obj):Yf sz enc (w.alloc o) v l:=h.below ((Below.refl w.heap.size _).alloc (nlr _) o) (nlr _)
theorem Yf.len_le{w:World}{v:Value}{l:List α}(h:Yf sz enc w v l):l.length≤9223372036854775807:=by
 obtain⟨a,cap,h1,h2,h3,h4⟩:=h;unfold maxLen at h3;omega
theorem Yf.nil(w:World):Yf sz enc w (.slice none 0 0) []:=⟨none,0,rfl,by simp,by unfold maxLen;omega,fun i x hi=>by simp at hi⟩
theorem Yf.at{w:World}{a:Option Addr}{m c:Nat}{l:List α}(h:Yf sz enc w (.slice a m c) l){k:Nat}{x:α}(hx:l[k]? =some x):
  ∃b off,a=some ⟨b,off,none⟩∧∀j c,(enc x)[j]? =some c→w.cell? ⟨b,off+k*sz+j,none⟩=some c:=by
 obtain⟨a',c',hv,-,-,h4⟩:=h;simp only[Value.slice.injEq]at hv;obtain⟨rfl,-,rfl⟩:=hv;exact h4 k x hx

def cellsS(enc:α→List Value)(l:List α):List Value:=l.flatMap enc
theorem Zj(he:∀x,(enc x).length=sz)(l:List α):(cellsS enc l).length=l.length*sz:=by
 induction l with
 |nil=>simp[cellsS]
 |cons x r ih=>simp only[cellsS,List.flatMap_cons,List.length_append,List.length_cons]at ih ⊢;rw[ih,he,Nat.succ_mul];omega
theorem Vx(l:List α)(x:α):cellsS enc (l++[x])=cellsS enc l++enc x:=by simp[cellsS]
theorem Xe(a b:List α):cellsS enc (a++b)=cellsS enc a++cellsS enc b:=by simp[cellsS]
theorem zT(he:∀x,(enc x).length=sz):∀(l:List α) (i j:Nat) (x:α),l[i]? =some x→j<sz→(cellsS enc l)[i*sz+j]? =(enc x)[j]?
 |[],i,_,_,h,_=>by simp at h
 |q::r,0,j,x,h,hj=>by
  simp at h
  subst h;simp only[cellsS,List.flatMap_cons,Nat.zero_mul,Nat.zero_add];rw[List.getElem?_append_left (by rw[he];exact hj)]
 |q::r,i+1,j,x,h,hj=>by
  have ih:=zT he r i j x (by simpa using h) hj;simp only[cellsS,List.flatMap_cons]at ih ⊢;rw[List.getElem?_append_right (by rw[he,Nat.succ_mul];omega),←ih,he]
  congr 1
  rw[Nat.succ_mul];omega
theorem Zl(he:∀x,(enc x).length=sz){w:World}{B:Nat}{e:TypeId}{v:Value}{l:List α}(h:w.ownsRow B e sz v l.length (cellsS enc l)):Yf sz enc w v l:=by
 rcases h.2 with⟨rfl,h0⟩|⟨g,cap,cur,rfl,hg,hh,h1,h2,h3,h4⟩
 ·have:l=[]:=List.eq_nil_of_length_eq_zero h0;subst this;exact Yf.nil _
 refine⟨some ⟨g,0,none⟩,cap,rfl,h1,h2,fun i x hi=>⟨g,0,rfl,fun j c hj=>?_⟩⟩;have hil:i<l.length:=(List.getElem?_eq_some_iff.1 hi).1;have hjl:j<sz:=by rw[←he x];exact(List.getElem?_eq_some_iff.1 hj).1
 have hlt:i*sz+j<l.length*sz:=by
  have:(i+1)*sz≤l.length*sz:=Nat.mul_le_mul_right _ hil;rw[Nat.succ_mul]at this;omega
 rw[Nat.zero_add,←hj,←zT he l i j x hi hjl,←h4,List.getElem?_take_of_lt hlt]
 simp[World.cell?,hh]
theorem Uk(b off j:Nat):(⟨b,off,none⟩:Addr).add j=⟨b,off+j,none⟩:=by
 simp only[Addr.add]
 split
 ·next e=>rw[e];rfl
 rfl
theorem Yf.cells(he:∀x,(enc x).length=sz){w:World}{b off m c:Nat}{l:List α}(h:Yf sz enc w (.slice (some ⟨b,off,none⟩) m c) l):∀j x,(cellsS enc l)[j]? =some x→w.cell? ((⟨b,off,none⟩:Addr).add j)=some x:=by
 intro j x hj;have hjl:j<l.length*sz:=by rw[←Zj he];exact(List.getElem?_eq_some_iff.1 hj).1
 have hsz:0<sz:=by
  rcases Nat.eq_zero_or_pos sz with h0|h0
  ·rw[h0]at hjl;omega
  exact h0
 have hi:j / sz<l.length:=(Nat.div_lt_iff_lt_mul hsz).2 hjl;obtain⟨y,hy⟩:∃y,l[j / sz]? =some y:=⟨_,List.getElem?_eq_getElem hi⟩;have hm:=Nat.mod_lt j hsz;have hd:j / sz*sz+j % sz=j:=by rw[Nat.mul_comm];exact Nat.div_add_mod j sz
 have hg:=zT he l (j / sz) (j % sz) y hy hm;rw[hd,hj]at hg;obtain⟨b',off',e,h2⟩:=h.at hy;simp only[Option.some.injEq,Addr.mk.injEq,and_true]at e;obtain⟨rfl,rfl⟩:=e;have:=h2 (j % sz) x hg.symm;rw[Uk];rw[Nat.add_assoc,hd]at this;exact this
end


theorem setCells_row(g:Nat)(e:TypeId):∀(vs:List Value) (o:Nat) (w:World) (cur:Array Value),w.heap[g]? =some (.cells cur e (0,0))→o+vs.length≤cur.size→
  ∃cur':Array Value,(w.setCells g o vs).heap[g]? =some (.cells cur' e (0,0))∧cur'.size=cur.size∧cur'.toList=cur.toList.take o++vs++cur.toList.drop (o+vs.length)
 |[],o,w,cur,h,_=>⟨cur,h,rfl,by simp⟩
 |v::vs,o,w,cur,h,hf=>by
  simp only[List.length_cons]at hf;obtain⟨cur',h1,h2,h3⟩:=setCells_row g e vs (o+1) (w.setCell ⟨g,o,none⟩ v) (cur.setIfInBounds o v) (heap_setCell_same w g o cur e v h) (by simp;omega);refine⟨cur',h1,by simpa using h2,?_⟩;rw[h3,Array.toList_setIfInBounds];rw[List.take_succ_eq_append_getElem (by simp;omega),List.take_set_of_le (nlr _),List.drop_set_of_lt (by omega)]
  simp[Nat.add_assoc,Nat.add_comm 1]
theorem Yh(g:Nat):∀(vs:List Value) (o:Nat) (w:World),w.grownBy (w.setCells g o vs) (some g)
 |[],_,_=>World.grownBy.refl _ _
 |v::vs,o,w=>Zy (Xv w g o v) (Yh g vs (o+1) (w.setCell ⟨g,o,none⟩ v))

section
variable {α:Type}{sz:Nat}{enc:α→List Value}{e:TypeId}

theorem Ue(he:∀x,(enc x).length=sz)(l:List α)(k:Nat):(cellsS enc l).take (k*sz)=cellsS enc (l.take k):=by
 by_cases hk:k≤l.length
 ·have e:cellsS enc l=cellsS enc (l.take k)++cellsS enc (l.drop k):=by rw[←Xe,List.take_append_drop]
  rw[e,List.take_left' (by rw[Zj he,List.length_take,Nat.min_eq_left hk])]
 rw[List.take_of_length_le (by rw[Zj he];exact Nat.mul_le_mul_right _ (by omega)),List.take_of_length_le (by omega)]
theorem Qe(he:∀x,(enc x).length=sz)(l:List α)(k:Nat):(cellsS enc l).drop (k*sz)=cellsS enc (l.drop k):=by
 by_cases hk:k≤l.length
 ·have e:cellsS enc l=cellsS enc (l.take k)++cellsS enc (l.drop k):=by rw[←Xe,List.take_append_drop]
  rw[e,List.drop_left' (by rw[Zj he,List.length_take,Nat.min_eq_left hk])]
 rw[List.drop_of_length_le (by rw[Zj he];exact Nat.mul_le_mul_right _ (by omega)),List.drop_of_length_le (by omega)];rfl
theorem cellsS_set(he:∀x,(enc x).length=sz){l:List α}{i:Nat}(x:α)(hi:i<l.length):cellsS enc (l.set i x)=(cellsS enc l).take (i*sz)++enc x++(cellsS enc l).drop (i*sz+sz):=by
 have e1:l.set i x=l.take i++x::l.drop (i+1):=by
  rw[List.set_eq_take_append_cons_drop,if_pos hi]
 rw[e1,Xe,Ue he,show i*sz+sz=(i+1)*sz by rw[Nat.succ_mul],Qe he]
 simp[cellsS]

def Zu(e:TypeId)(sz:Nat)(enc:α→List Value)(w:World)(g cap:Nat)(l:List α):Prop:=∃cur:Array Value,w.heap[g]? =some (.cells cur e (0,0))∧cur.size=cap*sz∧cur.toList.take (l.length*sz)=cellsS enc l
theorem Zu.lt{w:World}{g cap:Nat}{l:List α}(h:Zu e sz enc w g cap l):g<w.heap.size:=by
 obtain⟨cur,h1,-⟩:=h;exact lt_of_block h1
theorem Zu.cell{w:World}{g cap:Nat}{l:List α}(h:Zu e sz enc w g cap l){j:Nat}(hj:j<l.length*sz):w.cell? ⟨g,j,none⟩=(cellsS enc l)[j]?:=by
 obtain⟨cur,h1,h2,h3⟩:=h;rw[←h3,List.getElem?_take_of_lt hj]
 simp[World.cell?,h1]
theorem Zu.at(he:∀x,(enc x).length=sz){w:World}{g cap:Nat}{l:List α}(h:Zu e sz enc w g cap l){i:Nat}{x:α}(hx:l[i]? =some x){j:Nat}{c:Value}(hj:(enc x)[j]? =some c):w.cell? ⟨g,i*sz+j,none⟩=some c:=by
 have hil:i<l.length:=(List.getElem?_eq_some_iff.1 hx).1;have hjl:j<sz:=by rw[←he x];exact(List.getElem?_eq_some_iff.1 hj).1
 have hlt:i*sz+j<l.length*sz:=by
  have:(i+1)*sz≤l.length*sz:=Nat.mul_le_mul_right _ hil;rw[Nat.succ_mul]at this;omega
 rw[h.cell hlt,zT he l i j x hx hjl,hj]
theorem Zu.room{w:World}{g cap:Nat}{l:List α}(h:Zu e sz enc w g cap l){j:Nat}(hj:j<cap*sz):(w.cell? ⟨g,j,none⟩).isSome=true∧w.frozen? ⟨g,j,none⟩=false:=by
 obtain⟨cur,h1,h2,h3⟩:=h
 constructor
 ·simp[World.cell?,h1,h2,hj]
 simp[World.frozen?,h1]
theorem Zu.free{w:World}{g cap:Nat}{l:List α}(h:Zu e sz enc w g cap l)(j:Nat):w.frozen? ⟨g,j,none⟩=false:=by
 obtain⟨cur,h1,h2,h3⟩:=h
 simp[World.frozen?,h1]
theorem Zu.grown{w w':World}{g cap:Nat}{l:List α}{row:Option Nat}(h:Zu e sz enc w g cap l)(hg:w.grownBy w' row)(hne:some g≠row):Zu e sz enc w' g cap l:=by
 obtain⟨cur,h1,h2,h3⟩:=h;exact⟨cur,(hg.block g (lt_of_block h1) hne).trans h1,h2,h3⟩
theorem Zu.below{w w':World}{g cap:Nat}{l:List α}(h:Zu e sz enc w g cap l){B:Nat}(hb:Below B w w')(hB:w.heap.size≤B):Zu e sz enc w' g cap l:=by
 obtain⟨cur,h1,h2,h3⟩:=h;exact⟨cur,(hb.block g (Nat.lt_of_lt_of_le (lt_of_block h1) hB)).trans h1,h2,h3⟩
theorem Zu.put{w:World}{g cap o:Nat}{l:List α}(he:∀x,(enc x).length=sz)(h:Zu e sz enc w g cap l)(news:List Value)(qs:List α)(hfit:o+news.length≤cap*sz)(hq:(cellsS enc l).take o++news=cellsS enc qs)(ho:o≤l.length*sz):Zu e sz enc (w.setCells g o news) g cap qs:=by
 obtain⟨cur,h1,h2,h3⟩:=h;obtain⟨⟨cur',k1,k2,k3⟩,-⟩:=Ug g e news o w cur h1 (by rw[h2];exact hfit);refine⟨cur',k1,by rw[k2,h2],?_⟩
 have hl:qs.length*sz=o+news.length:=by
  have:=congrArg List.length hq;rw[List.length_append,List.length_take,Zj he,Zj he]at this;omega
 rw[hl,k3,←hq,←h3,List.take_take,Nat.min_eq_left ho]
theorem Zu.splice{w:World}{g cap o:Nat}{l:List α}(h:Zu e sz enc w g cap l)(news:List Value)(qs:List α)(hlen:qs.length=l.length)(hn:l.length≤cap)(ho:o+news.length≤l.length*sz)(hq:cellsS enc qs=(cellsS enc l).take o++news++(cellsS enc l).drop (o+news.length)):Zu e sz enc (w.setCells g o news) g cap qs:=by
 obtain⟨cur,h1,h2,h3⟩:=h;have hcap:l.length*sz≤cap*sz:=Nat.mul_le_mul_right _ hn;obtain⟨cur',k1,k2,k3⟩:=setCells_row g e news o w cur h1 (by rw[h2];omega);refine⟨cur',k1,by rw[k2,h2],?_⟩;rw[hlen,k3,hq,←h3,List.take_take,Nat.min_eq_left (by omega),List.drop_take];have hcl:cur.toList.length=cap*sz:=by rw[Array.length_toList,h2]
 rw[List.take_append,List.take_of_length_le (by simp[hcl];omega)];simp only[List.length_append,List.length_take,hcl,Nat.min_eq_left (show o≤cap*sz by omega)]
theorem Zu.set{w:World}{g cap i:Nat}{l:List α}(he:∀x,(enc x).length=sz)(h:Zu e sz enc w g cap l)(x:α)(hi:i<l.length)(hn:l.length≤cap):Zu e sz enc (w.setCells g (i*sz) (enc x)) g cap (l.set i x):=by
 refine h.splice (enc x) (l.set i x) (by simp) hn ?_ (by rw[cellsS_set he x hi,he]);rw[he];have:(i+1)*sz≤l.length*sz:=Nat.mul_le_mul_right _ hi;rw[Nat.succ_mul]at this;exact this
theorem Zu.less{w:World}{g cap:Nat}{l r:List α}(he:∀x,(enc x).length=sz)(h:Zu e sz enc w g cap (l++r)):Zu e sz enc w g cap l:=by
 obtain⟨cur,h1,h2,h3⟩:=h;refine⟨cur,h1,h2,?_⟩;have:=congrArg (List.take (l.length*sz)) h3;rw[List.take_take,Nat.min_eq_left (by rw[List.length_append,Nat.add_mul];omega),Xe,List.take_left' (Zj he l)]at this;exact this
theorem Zu.own(he:∀x,(enc x).length=sz){w:World}{B g cap:Nat}{l:List α}(h:Zu e sz enc w g cap l)(hB:B≤g)(hn:l.length≤cap)(hm:cap≤maxLen):w.ownsRow B e sz (.slice (some ⟨g,0,none⟩) l.length cap) l.length (cellsS enc l):=by
 obtain⟨cur,h1,h2,h3⟩:=h;exact⟨Zj he l,.inr ⟨g,cap,cur,rfl,hB,h1,hn,hm,h2,h3⟩⟩
theorem Qj{w:World}{B:Nat}{v:Value}{l:List α}(h:w.ownsRow B e sz v l.length (cellsS enc l)):(v=.slice none 0 0∧l=[])∨∃g cap,v=.slice (some ⟨g,0,none⟩) l.length cap∧B≤g∧Zu e sz enc w g cap l∧l.length≤cap∧cap≤maxLen:=by
 rcases h.2 with⟨h1,h2⟩|⟨g,cap,cur,h1,h2,h3,h4,h5,h6,h7⟩
 ·exact .inl ⟨h1,List.eq_nil_of_length_eq_zero h2⟩
 exact .inr ⟨g,cap,h1,h2,⟨cur,h3,h6,h7⟩,h4,h5⟩
end

theorem Box.grownT{w w':World}{b:Nat}{cs:List Value}{t e:TypeId}{sz n B:Nat}{v:Value}{xs:List Value}(h:Box w b cs t)(hr:w.ownsRow B e sz v n xs)(hg:w.grownBy w' v.ownBlock)(hte:t≠e):Box w' b cs t:=by
 unfold Box at h ⊢;rw[hg.block b (lt_of_block h) ?_]
 ·exact h
 intro hb
 rcases hr.2 with⟨rfl,-⟩|⟨g,cap,cur,rfl,-,hh,-⟩
 ·simp[Value.ownBlock]at hb
 simp only[Value.ownBlock,Option.some.injEq]at hb;subst hb;rw[h]at hh;simp only[Option.some.injEq,Obj.cells.injEq]at hh;exact hte hh.2.1
theorem Xt{w w':World}{e f:TypeId}{s1 s2 n1 n2 B C:Nat}{v u:Value}{xs ys:List Value}(h:w.ownsRow C f s2 u n2 ys)(hr:w.ownsRow B e s1 v n1 xs)(hg:w.grownBy w' v.ownBlock)(hte:f≠e):w'.ownsRow C f s2 u n2 ys:=by
 refine h.kept hg ?_
 rcases h.2 with⟨rfl,-⟩|⟨g,cap,cur,rfl,-,hh,-⟩
 ·exact .inl rfl
 refine .inr ?_
 rcases hr.2 with⟨rfl,-⟩|⟨g',cap',cur',rfl,-,hh',-⟩
 ·simp[Value.ownBlock]
 simp only[Value.ownBlock,ne_eq,Option.some.injEq];intro e1;subst e1;rw[hh]at hh';simp only[Option.some.injEq,Obj.cells.injEq]at hh';exact hte hh'.2.1

theorem Vj{P:Program}(w:World)(dT sT ty elem:TypeId)(sz b o dLen dCap:Nat)(a:Addr)(sLen sCap m:Nat)(cs:List Value)
  (hu:P.underlying dT=some (.slice elem)) (hs:(P.info? elem).map (·.size)=some sz) (hm:m=Nat.min sLen dLen) (hn:cs.length=m*sz)
  (hsrc:∀j v,cs[j]? =some v→w.cell? (a.add j)=some v) (hc:∀j,j<cs.length→(w.cell? ⟨b,o+j,none⟩).isSome=true) (hf:∀j,j<cs.length→w.frozen? ⟨b,o+j,none⟩=false) (h1:∀v ∈ cs,v.oneCell'=true):
  (Builtin.copy_ #[dT,sT] ty #[.slice (some ⟨b,o,none⟩) dLen dCap,.slice (some a) sLen sCap]).run P w=.ok (goInt m) (w.setCells b o cs):=by
 have hl:=run_loadCells_list (P:=P) w a cs hsrc;have hst:=run_storeCells_cells (P:=P) b o cs 0 w (by simpa using hc) (by simpa using hf) h1
 cases hq:P.info? elem with
 |none=>simp[hq]at hs
 |some i=>
  have hi:i.size=sz:=by simpa[hq]using hs
  rw[hn]at hl
  simp[Builtin.copy_,run_underlying hu,Builtin.lenOf,Builtin.firstCells,sizeOf,typeInfo,hq,hi,←hm,hl,hst]
end Go.Proofs.YtfhecilhcofboaaGreat
