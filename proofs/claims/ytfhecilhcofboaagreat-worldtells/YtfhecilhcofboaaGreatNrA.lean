/- A region that draws its order, whose last operations write what the earlier ones read: what the earlier ones lean on need not hold behind the last ones, which wait for them. -/
import Derived.Test.YtfhecilhcofboaaGreatSortI
import Derived.Test.YtfhecilhcofboaaGreatNdC
import Derived.Test.YtfhecilhcofboaaGreatRfC
namespace Go.Proofs.YtfhecilhcofboaaGreat
open Go.RowKit

def Up(D:Nat→Bool)(listed:Array Bool):Bool:=(List.range listed.size).all fun j=> !D j|| !listed.getD j true
theorem clean_set{D:Nat→Bool}{listed:Array Bool}{i:Nat}(hi:D i=false):Up D (listed.setIfInBounds i true)=Up D listed:=by
 unfold Up;rw[Array.size_setIfInBounds];refine congrArg (fun f=>(List.range listed.size).all f) (funext fun j=>?_)
 by_cases h:i=j
 ·subst h;rw[hi];rfl
 rw[getD_set_ne true h]
section
variable {P:Program}{ops:Array Oper}{Q:Exit→Act→World→Prop}{md:Region.Mode}{S T:World→Prop}{D:Nat→Bool}
def Ve(P:Program)(md:Region.Mode)(ops:Array Oper)(Q:Exit→Act→World→Prop)(S T:World→Prop)(D:Nat→Bool):Nat→Array Bool→Act→World→Prop
 |0,listed,a,w=>Region.ready md ops listed=[]∧Q .normal a w
 |fuel+1,listed,a,w=>(Region.ready md ops listed=[]→Q .normal a w)∧
  ∀i ∈ Region.ready md ops listed,wpOp P ops Q i (fun a' w'=>(T w'∧(Up D (listed.setIfInBounds i true)=true→S w'))∧Ve P md ops Q S T D fuel (listed.setIfInBounds i true) a' w') a w
theorem wpAny_of_D:∀(fuel:Nat) (listed:Array Bool) (a:Act) (w:World),Ve P md ops Q S T D fuel listed a w→wpAny P md ops Q fuel listed a w
 |0,_,_,_,h=>h
 |fuel+1,_,_,_,h=>⟨h.1,fun i hi=>wpOp_mono (fun a' w' h'=>wpAny_of_D fuel _ a' w' h'.2) (h.2 i hi)⟩
def waits(md:Region.Mode)(ops:Array Oper)(D:Nat→Bool)(i:Nat):Bool:=(List.range ops.size).all fun j=> !D j||match ops[j]? with
 |some o=>o.after.any fun e=>Region.binds md e&&e.on==i
 |none=>true
theorem waits_spec{i j:Nat}{o:Oper}(h:waits md ops D i=true)(ho:ops[j]? =some o)(hd:D j=true):∃e ∈ o.after,Region.binds md e=true∧e.on=i:=by
 have hj:j<ops.size:=(Array.getElem?_eq_some_iff.1 ho).1;have h1:=List.all_eq_true.1 h j (List.mem_range.2 hj);rw[hd,ho]at h1;simp only[Bool.not_true,Bool.false_or,Array.any_eq_true]at h1;obtain⟨k,hk,h2⟩:=h1;rw[Bool.and_eq_true,beq_iff_eq]at h2;exact⟨_,Array.getElem_mem hk,h2⟩
theorem unlisted{i:Nat}{listed:Array Bool}{e:Edge}(hr:i ∈ Region.ready md ops listed)(h1:listed.getD e.on false=true):e.on≠i:=fun heq=>by
 have h0:=(mem_ready.1 hr).1;rw[heq]at h1
 rcases Nat.lt_or_ge i listed.size with h'|h'
 ·simp[h']at h0 h1
  rw[h0]at h1
  cases h1
 simp[Array.getElem?_eq_none h']at h1
theorem firstD{C:World→Prop}{i:Nat}{oi:Oper}{v:Value}(hi:ops[i]? =some oi)(hsel:∀(j:Nat) (o:Oper) cs b,ops[j]? =some o→o.op≠.select cs b)
  (hQ:∀c a w,Q (.panic c) (a.put oi.dst v) w→Q (.panic c) a w) (hDi:D i=false):∀(fuel:Nat) (listed:Array Bool) (a:Act) (w:World),
  (waits md ops D i=true∧Up D listed=true∧C=S)∨C=T→
  (∀j oj,ops[j]? =some oj→j≠i→listed.getD j true=false→(∀e ∈ oj.after,Region.binds md e=true→e.on≠i)→oi.apart ops oj=true)→
  i ∈ Region.ready md ops listed→YieldsIf P ops C oi v a→T w→(Up D listed=true→S w)→Ve P md ops Q S T D fuel (listed.setIfInBounds i true) (a.put oi.dst v) w→Ve P md ops Q S T D (fuel+1) listed a w:=by
 have cw:∀{listed:Array Bool} {w:World},(waits md ops D i=true∧Up D listed=true∧C=S)∨C=T→T w→(Up D listed=true→S w)→C w:=fun hC hT hS=>by
  rcases hC with⟨-,h1,rfl⟩|rfl
  ·exact hS h1
  exact hT
 intro fuel
 induction fuel with
 |zero=>
  intro listed a w hC _ hr hy hT hS H;refine⟨fun h=>(by rw[h]at hr;cases hr),fun j hj=>?_⟩
  by_cases hji:j=i
  ·subst hji;exact hy.wpOp hi (cw hC hT hS) ⟨⟨hT,by rw[clean_set hDi];exact hS⟩,H⟩
  have:=ready_mono hj hji;rw[H.1]at this
  cases this
 |succ fuel ih=>
  intro listed a w hC hfree hr hy hT hS H;refine⟨fun h=>(by rw[h]at hr;cases hr),fun j hj=>?_⟩
  by_cases hji:j=i
  ·subst hji;exact hy.wpOp hi (cw hC hT hS) ⟨⟨hT,by rw[clean_set hDi];exact hS⟩,H⟩
  obtain⟨hun,oj,hoj,hall⟩:=mem_ready.1 hj;have hnot:∀e ∈ oj.after,Region.binds md e=true→e.on≠i:=fun e he hb=>unlisted hr (hall e he hb)
  have hC':(waits md ops D i=true∧Up D (listed.setIfInBounds j true)=true∧C=S)∨C=T:=by
   rcases hC with⟨h1,h2,h3⟩|h1
   ·have hd:D j=false:=by
     cases hd:D j with
     |false=>rfl
     |true=>
      obtain⟨e,he,hb,heq⟩:=waits_spec h1 hoj hd;exact absurd heq (hnot e he hb)
    exact .inl ⟨h1,by rw[clean_set hd];exact h2,h3⟩
   exact .inr h1
  have hcl:Up D ((listed.setIfInBounds i true).setIfInBounds j true)=Up D (listed.setIfInBounds j true):=by rw[Array.setIfInBounds_comm _ _ (Ne.symm hji),clean_set hDi]
  refine wpOp_mono (fun a' w' h3=>⟨⟨h3.2.1.1,fun hc=>h3.2.1.2 (by rw[hcl];exact hc)⟩,ih (listed.setIfInBounds j true) a' w' hC' (fun k ok hk hki hu hno=>hfree k ok hk hki ?_ hno) (ready_mono hr (Ne.symm hji)) h3.1 h3.2.1.1 (fun hc=>h3.2.1.2 (by rw[hcl];exact hc)) ?_⟩)
   (wpOp_putIf hoj (hfree j oj hoj hji hun hnot) (fun cs b=>hsel i oi cs b hi) (fun cs b=>hsel j oj cs b hoj) hQ hy (H.2 j (ready_mono hj hji)))
  ·by_cases hjk:j=k
   ·subst hjk;exact hun
   rw[getD_set_ne true hjk]at hu;exact hu
  rw[Array.setIfInBounds_comm _ _ hji];exact h3.2.2
def okD(md:Region.Mode)(ops:Array Oper)(D:Nat→Bool)(listed:Array Bool)(i:Nat):Bool:=Region.noSelect ops&&(Region.free md ops listed i&&((Region.ready md ops listed).contains i&& !D i))
theorem yD(i:Nat)(v:Value){d:Nat}{oi:Oper}{fuel:Nat}{listed:Array Bool}{a a':Act}{w:World}(h:Ve P md ops Q S T D fuel (listed.setIfInBounds i true) a' w)
  (hi:ops[i]? =some oi:=by rfl) (hd:oi.dst=some d:=by rfl) (hs:(okD md ops D listed i&&(waits md ops D i&&Up D listed))=true:=by kernel_rfl)
  (hQ:∀c a w,Q (.panic c) (a.put oi.dst v) w→Q (.panic c) a w:=by exact fun _ _ _ h=>h) (hw:Region.wanted oi (yielded ops a.tmps)=true:=by rfl)
  (hy:∀w,S w→(execOp a.eval oi).run P w=.ok (.value v) w:=by intro w hSw;(try dsimp only at hSw);go_simp) (hS:S w:=by assumption) (hT:T w:=by first|trivial|exact And.left (by assumption))
  (ha:a.put (some d) v=a':=by simp only[Act.put,Zt,Zs,Zr];exact rfl):Ve P md ops Q S T D (fuel+1) listed a w:=by
 simp only[okD,Bool.and_eq_true,Bool.not_eq_true']at hs;exact firstD hi (Region.noSelect_spec hs.1.1) hQ hs.1.2.2.2 fuel listed a w (.inl ⟨hs.2.1,hs.2.2,rfl⟩) (Region.free_spec hi hs.1.2.1) (by simpa using hs.1.2.2.1) (.inl ⟨hw,hy⟩) hT (fun _=>hS) (by rw[hd,ha];exact h)
theorem yT(i:Nat)(v:Value){d:Nat}{oi:Oper}{fuel:Nat}{listed:Array Bool}{a a':Act}{w:World}(h:Ve P md ops Q S T D fuel (listed.setIfInBounds i true) a' w)
  (hi:ops[i]? =some oi:=by rfl) (hd:oi.dst=some d:=by rfl) (hs:okD md ops D listed i=true:=by kernel_rfl)
  (hQ:∀c a w,Q (.panic c) (a.put oi.dst v) w→Q (.panic c) a w:=by exact fun _ _ _ h=>h) (hw:Region.wanted oi (yielded ops a.tmps)=true:=by rfl)
  (hy:∀w,T w→(execOp a.eval oi).run P w=.ok (.value v) w:=by intro w hSw;(try dsimp only at hSw);go_simp) (hS:S w:=by assumption) (hT:T w:=by first|trivial|exact And.left (by assumption))
  (ha:a.put (some d) v=a':=by simp only[Act.put,Zt,Zs,Zr];exact rfl):Ve P md ops Q S T D (fuel+1) listed a w:=by
 simp only[okD,Bool.and_eq_true,Bool.not_eq_true']at hs;exact firstD hi (Region.noSelect_spec hs.1) hQ hs.2.2.2 fuel listed a w (.inr rfl) (Region.free_spec hi hs.2.1) (by simpa using hs.2.2.1) (.inl ⟨hw,hy⟩) hT (fun _=>hS) (by rw[hd,ha];exact h)
theorem yU(i:Nat)(v:Value){d:Nat}{oi:Oper}{fuel:Nat}{listed:Array Bool}{a a':Act}{w:World}(h:Ve P md ops Q S T D fuel (listed.setIfInBounds i true) a' w)
  (hs:(okD md ops D listed i&& !Up D listed)=true:=by decide+kernel) (hi:ops[i]? =some oi:=by rfl) (hd:oi.dst=some d:=by rfl)
  (hQ:∀c a w,Q (.panic c) (a.put oi.dst v) w→Q (.panic c) a w:=by exact fun _ _ _ h=>h) (hw:Region.wanted oi (yielded ops a.tmps)=true:=by rfl)
  (hy:∀w,T w→(execOp a.eval oi).run P w=.ok (.value v) w:=by intro w hSw;(try dsimp only at hSw);go_simp) (hT:T w:=by assumption)
  (ha:a.put (some d) v=a':=by simp only[Act.put,Zt,Zs,Zr];exact rfl):Ve P md ops Q S T D (fuel+1) listed a w:=by
 simp only[okD,Bool.and_eq_true,Bool.not_eq_true']at hs;exact firstD hi (Region.noSelect_spec hs.1.1) hQ hs.1.2.2.2 fuel listed a w (.inr rfl) (Region.free_spec hi hs.1.2.1) (by simpa using hs.1.2.2.1) (.inl ⟨hw,hy⟩) hT (fun h=>by rw[hs.2]at h;cases h) (by rw[hd,ha];exact h)
def AllD(P:Program)(md:Region.Mode)(ops:Array Oper)(Q:Exit→Act→World→Prop)(S T:World→Prop)(D:Nat→Bool)(fuel:Nat)(listed:Array Bool)(a:Act)(w:World)(rs:List Nat):Prop:=
 ∀i ∈ rs,wpOp P ops Q i (fun a' w'=>(T w'∧(Up D (listed.setIfInBounds i true)=true→S w'))∧Ve P md ops Q S T D fuel (listed.setIfInBounds i true) a' w') a w
theorem cD{fuel:Nat}{listed:Array Bool}{a:Act}{w:World}{i:Nat}{o:Oper}{rs:List Nat}
  (h:∀K:Act→World→Prop,Shut (∀a w,(T w∧(Up D (listed.setIfInBounds i true)=true→S w))→Ve P md ops Q S T D fuel (listed.setIfInBounds i true) a w→K a w)→if Region.wanted o (yielded ops a.tmps)=true then Oper.wp P o a w K Q else K (a.put o.dst undef) w)
  (hs:AllD P md ops Q S T D fuel listed a w rs) (ho:ops[i]? =some o:=by rfl):AllD P md ops Q S T D fuel listed a w (i::rs):=fun j hj=>by
 rcases List.mem_cons.1 hj with rfl|hj
 ·exact wpOp_step ho (fun K' hK=>h K' (fun a w hS hW=>hK a w ⟨hS,hW⟩))
 exact hs j hj
theorem nD{fuel:Nat}{listed:Array Bool}{a:Act}{w:World}:AllD P md ops Q S T D fuel listed a w []:=fun _ h=>by cases h
theorem aD(rs:List Nat){fuel:Nat}{listed:Array Bool}{a:Act}{w:World}(h:AllD P md ops Q S T D fuel listed a w rs)(hr:Region.ready md ops listed=rs:=by kernel_rfl)(hne:rs≠[]:=by simp):Ve P md ops Q S T D (fuel+1) listed a w:=
 ⟨fun h0=>absurd (hr ▸ h0) hne,hr ▸ h⟩
theorem oD(i:Nat){fuel:Nat}{listed:Array Bool}{a:Act}{w:World}{o:Oper}
  (h:∀K:Act→World→Prop,Shut (∀a w,(T w∧(Up D (listed.setIfInBounds i true)=true→S w))→Ve P md ops Q S T D fuel (listed.setIfInBounds i true) a w→K a w)→if Region.wanted o (yielded ops a.tmps)=true then Oper.wp P o a w K Q else K (a.put o.dst undef) w)
  (ho:ops[i]? =some o:=by rfl) (hr:Region.ready md ops listed=[i]:=by kernel_rfl):Ve P md ops Q S T D (fuel+1) listed a w:=aD [i] (cD h nD ho) hr
def AllR(P:Program)(md:Region.Mode)(ops:Array Oper)(Q:Exit→Act→World→Prop)(S T:World→Prop)(D:Nat→Bool)(fuel:Nat)(listed:Array Bool)(a:Act)(w:World)(rs:List Nat):Prop:=
 ∀i ∈ rs,(Region.ready md ops listed).contains i=true→wpOp P ops Q i (fun a' w'=>(T w'∧(Up D (listed.setIfInBounds i true)=true→S w'))∧Ve P md ops Q S T D fuel (listed.setIfInBounds i true) a' w') a w
structure Tg (i:Nat):Prop where
 ok:True
theorem cR(i:Nat){fuel:Nat}{listed:Array Bool}{a:Act}{w:World}{o:Oper}{rs:List Nat}
  (h:Tg i→(Region.ready md ops listed).contains i=true→∀K:Act→World→Prop,Shut (∀a w,(T w∧(Up D (listed.setIfInBounds i true)=true→S w))→Ve P md ops Q S T D fuel (listed.setIfInBounds i true) a w→K a w)→if Region.wanted o (yielded ops a.tmps)=true then Oper.wp P o a w K Q else K (a.put o.dst undef) w)
  (hs:AllR P md ops Q S T D fuel listed a w rs) (ho:ops[i]? =some o:=by rfl):AllR P md ops Q S T D fuel listed a w (i::rs):=fun j hj hr=>by
 rcases List.mem_cons.1 hj with rfl|hj
 ·exact wpOp_step ho (fun K' hK=>h ⟨trivial⟩ hr K' (fun a w hS hW=>hK a w ⟨hS,hW⟩))
 exact hs j hj hr
theorem nR{fuel:Nat}{listed:Array Bool}{a:Act}{w:World}:AllR P md ops Q S T D fuel listed a w []:=fun _ h=>by cases h
theorem aR{rs:List Nat}{fuel:Nat}{listed:Array Bool}{a:Act}{w:World}(h:AllR P md ops Q S T D fuel listed a w rs)(hr:((Region.ready md ops listed).all rs.contains&& !(Region.ready md ops listed).isEmpty)=true:=by decide+kernel):Ve P md ops Q S T D (fuel+1) listed a w:=by
 rw[Bool.and_eq_true,List.all_eq_true]at hr;exact⟨fun h0=>(by rw[h0]at hr;cases hr.2),fun i hi=>h i (List.contains_iff_mem.1 (hr.1 i hi)) (List.contains_iff_mem.2 hi)⟩
theorem kS{fuel:Nat}{listed:Array Bool}{a:Act}{w:World}{K:Act→World→Prop}(hK:Shut (∀a w,(T w∧(Up D listed=true→S w))→Ve P md ops Q S T D fuel listed a w→K a w))(hS:S w){a':Act}(h:Ve P md ops Q S T D fuel listed a' w)(hT:S w→T w:=by first|exact fun _=>trivial|exact And.left)(ha:a=a':=by(try simp only[Act.put,Zt,Zs,Zr]);exact rfl):K a w:=hK.out a w ⟨hT hS,fun _=>hS⟩ (ha ▸ h)
theorem kD{fuel:Nat}{listed:Array Bool}{a:Act}{w:World}{K:Act→World→Prop}(hK:Shut (∀a w,(T w∧(Up D listed=true→S w))→Ve P md ops Q S T D fuel listed a w→K a w))(hT:T w){a':Act}(h:Ve P md ops Q S T D fuel listed a' w)(hc:Up D listed=false:=by decide+kernel)(ha:a=a':=by(try simp only[Act.put,Zt,Zs,Zr]);exact rfl):K a w:=hK.out a w ⟨hT,fun h=>by rw[hc]at h;cases h⟩ (ha ▸ h)
theorem eD{listed:Array Bool}{a:Act}{w:World}{fuel:Nat}(h:Q .normal a w)(hr:Region.ready md ops listed=[]:=by kernel_rfl):Ve P md ops Q S T D fuel listed a w:=by
 cases fuel with
 |zero=>exact⟨hr,h⟩
 |succ n=>exact⟨fun _=>h,by rw[hr];simp⟩
theorem bD(D:Nat→Bool)(T:World→Prop){id:Nat}{a:Act}{w w0:World}(hg:Zh w0 w)(hk:∀w',Zh w0 w'→S w')(h:∀wd,Zh w wd→S wd→Ve P .any ops Q S T D ops.size (Array.replicate ops.size false) a wd)(hm:P.follows .mixedOrders=true:=by kernel_rfl):
  (Code.region id ops true).wp P Q a w:=wp_region_any hm (wpAny_of_D _ _ _ _ (h _ (Zf (Zi _)) (hk _ (Zf hg))))
theorem Xs{w:World}{g g' i j:Nat}{v x:Value}(hne:g'≠g)(h:w.cell? ⟨g,i,none⟩=some x):(w.setCell ⟨g',j,none⟩ v).cell? ⟨g,i,none⟩=some x:=(World.cell?_setCell_far w ⟨g',j,none⟩ ⟨g,i,none⟩ v hne).trans h
end
end Go.Proofs.YtfhecilhcofboaaGreat
/- What stays, whatever is written at some blocks; the document's own Has, Lacks and set. -/
namespace Go.Proofs.YtfhecilhcofboaaGreat
open Go.RowKit

structure Off (S:Nat→Prop) (w w':World):Prop where
 os:w'.os=w.os
 tape:w'.tape=w.tape
 output:w'.output=w.output
 size:w.heap.size≤w'.heap.size
 block:∀k,k<w.heap.size→¬S k→w'.heap[k]? =w.heap[k]?
def Fix(S:Nat→Prop)(w:World)(P:World→Prop):Prop:=∀w',Off S w w'→P w'
def Us(S:Nat→Prop)(a b:Nat):Nat→Prop:=fun k=>S k∨(a≤k∧k<b)
def encP(p:Upd×Value):List Value:=Yn p.1 p.2
def encK(q:List Int×Value):List Value:=[q.2]
section
variable {S:Nat→Prop}{w w' w1:World}{P:World→Prop}
theorem Off.refl(S:Nat→Prop)(w:World):Off S w w:=⟨rfl,rfl,rfl,nlr _,fun _ _ _=>rfl⟩
theorem Off.trans(h:Off S w w')(k:Off S w' w1):Off S w w1:=⟨k.os.trans h.os,k.tape.trans h.tape,k.output.trans h.output,Nat.le_trans h.size k.size,fun i hi hs=>(k.block i (Nat.lt_of_lt_of_le hi h.size) hs).trans (h.block i hi hs)⟩
theorem zM{C:Nat}(h:Below C w w')(hC:w.heap.size≤C):Off S w w':=⟨h.os,h.tape,h.output,h.size,fun k hk _=>h.block k (Nat.lt_of_lt_of_le hk hC)⟩
theorem Off.set{g:Nat}(h:Off S w w')(hg:S g)(i:Nat)(v:Value):Off S w (w'.setCell ⟨g,i,none⟩ v):=
 ⟨h.os,h.tape,h.output,by rw[World.size_setCell];exact h.size,fun k hk hs=>(Below.heap_setCell w' ⟨g,i,none⟩ v k (fun e=>hs (by rw[e];exact hg))).trans (h.block k hk hs)⟩
theorem Fix.here(h:Fix S w P):P w:=h w (Off.refl S w)
theorem Fix.off(h:Fix S w P)(ho:Off S w w'):Fix S w' P:=fun w2 h2=>h w2 (ho.trans h2)
theorem Fix.less{a b:Nat}(h:Fix (Us S a b) w P):Fix S w P:=fun w2 h2=>h w2 ⟨h2.os,h2.tape,h2.output,h2.size,fun k hk hs=>h2.block k hk fun hh=>hs (.inl hh)⟩
theorem Fix.more(h:Fix S w P)(hb:Below w.heap.size w w'){b:Nat}:Fix (Us S w.heap.size b) w' P:=fun w2 h2=>h w2
 ⟨h2.os.trans hb.os,h2.tape.trans hb.tape,h2.output.trans hb.output,Nat.le_trans hb.size h2.size,fun k hk hs=>(h2.block k (Nat.lt_of_lt_of_le hk hb.size) (fun hh=>hh.elim hs fun hh=>by omega)).trans (hb.block k hk)⟩
theorem Ua{B:Nat}{e:TypeId}{sz n:Nat}{v:Value}{xs:List Value}(h:w.ownsRow B e sz v n xs)(hB:∀k,S k→k<B)(ho:Off S w w'):w'.ownsRow B e sz v n xs:=by
 obtain⟨h1,h2⟩:=h;refine⟨h1,?_⟩
 rcases h2 with h2|⟨g,cap,cur,e1,e2,e3,e4⟩
 ·exact .inl h2
 exact .inr ⟨g,cap,cur,e1,e2,(ho.block g (lt_of_block e3) fun hs=>by have:=hB g hs;omega).trans e3,e4⟩
theorem Own.fix{B:Nat}{v:Value}{xs:List Int}(h:Own w B v xs)(hB:∀k,S k→k<B):Fix S w fun w=>Row w v xs:=fun _ ho=>Own.row (Ua h hB ho)
theorem Yl.fix{B:Nat}{v:Value}{s:StS}(h:Yl w B v s)(hB:∀k,S k→k<B):Fix S w fun w=>Jp w v s:=fun _ ho=>by
 obtain⟨cv,lv,tv,h1,h2,h3,h4⟩:=h;exact Yl.st ⟨cv,lv,tv,h1,Ua h2 hB ho,Ua h3 hB ho,Ua h4 hB ho⟩
theorem Jq{c l t:Value}{s:StS}(h:Fix S w fun w=>Jp w (.agg #[c,l,t]) s):Fix S w fun w=>Row w c s.clock:=fun w2 ho=>by
 obtain⟨cv,lv,tv,he,hr,-⟩:=h w2 ho;simp only[Value.agg.injEq,Array.mk.injEq,List.cons.injEq,and_true]at he;rw[he.1];exact hr
def Og(S:Nat→Prop)(w:World)(v:Value)(l:List Upd):Prop:=∃ps:List (Upd×Value),ps.map (·.1)=l∧(Fix S w fun w=>Yf 5 encP w v ps)∧∀p ∈ ps,Fix S w fun w=>Row w p.2 p.1.seen
def KnF(S:Nat→Prop)(w:World)(v:Value)(ks:List (List Int)):Prop:=∃qs:List (List Int×Value),qs.map (·.1)=ks∧(Fix S w fun w=>Yf 1 encK w v qs)∧∀q ∈ qs,Fix S w fun w=>Row w q.2 q.1
theorem Og.log{v:Value}{l:List Upd}(h:Og S w v l):Vh w v l:=by
 obtain⟨ps,rfl,hs,hr⟩:=h;obtain⟨a,cap,h1,h2,h3,h4⟩:=hs.here;refine⟨a,cap,by simpa using h1,by simpa using h2,h3,fun i u hi=>?_⟩;rw[List.getElem?_map,Option.map_eq_some_iff]at hi;obtain⟨p,hp,rfl⟩:=hi;obtain⟨b,off,e,hc⟩:=h4 i p hp;exact⟨b,off,e,p.2,(hr p (List.mem_of_getElem? hp)).here,hc 0 _ rfl,hc 1 _ rfl,hc 2 _ rfl,hc 3 _ rfl,hc 4 _ rfl⟩
theorem KnF.kn{v:Value}{ks:List (List Int)}(h:KnF S w v ks):KnV w v ks:=by
 obtain⟨qs,rfl,hs,hr⟩:=h;obtain⟨a,cap,h1,h2,h3,h4⟩:=hs.here;refine⟨a,cap,by simpa using h1,by simpa using h2,h3,fun i u hi=>?_⟩;rw[List.getElem?_map,Option.map_eq_some_iff]at hi;obtain⟨q,hq,rfl⟩:=hi;obtain⟨b,off,e,hc⟩:=h4 i q hq;exact⟨b,off,e,q.2,by simpa using hc 0 _ rfl,(hr q (List.mem_of_getElem? hq)).here⟩
theorem Og.off{v:Value}{l:List Upd}(h:Og S w v l)(ho:Off S w w'):Og S w' v l:=by
 obtain⟨ps,h1,h2,h3⟩:=h;exact⟨ps,h1,h2.off ho,fun p hp=>(h3 p hp).off ho⟩
theorem KnF.off{v:Value}{l:List (List Int)}(h:KnF S w v l)(ho:Off S w w'):KnF S w' v l:=by
 obtain⟨ps,h1,h2,h3⟩:=h;exact⟨ps,h1,h2.off ho,fun p hp=>(h3 p hp).off ho⟩
theorem Og.own{B:Nat}{v:Value}{ps:List (Upd×Value)}(h:w.ownsRow B 33 5 v ps.length (Um ps))(hB:∀k,S k→k<B)(hr:∀p ∈ ps,Fix S w fun w=>Row w p.2 p.1.seen):Og S w v (ps.map (·.1)):=
 ⟨ps,rfl,fun _ ho=>Zl (enc:=encP) (fun _=>rfl) (Ua h hB ho),hr⟩
theorem KnF.own{B:Nat}{v:Value}{qs:List (List Int×Value)}(h:w.ownsRow B 23 1 v qs.length (cellsS encK qs))(hB:∀k,S k→k<B)(hr:∀q ∈ qs,Fix S w fun w=>Row w q.2 q.1):KnF S w v (qs.map (·.1)):=
 ⟨qs,rfl,fun _ ho=>Zl (enc:=encK) (fun _=>rfl) (Ua h hB ho),hr⟩
structure NdF (S:Nat→Prop) (w:World) (x1 x2 x3 x4 x5 x6:Value) (d:NdS):Prop where
 st:Fix S w fun w=>Jp w (.agg #[x1,x2,x3]) d.st
 base:Fix S w fun w=>Row w x4 d.base
 log:Og S w x5 d.log
 kn:KnF S w x6 d.known
structure PcF (S:Nat→Prop) (w:World) (x1 x2 x3 x4 x5:Value) (p:Pcl):Prop where
 st:Fix S w fun w=>Jp w (.agg #[x1,x2,x3]) p.st
 ups:Og S w x4 p.ups
 clk:Fix S w fun w=>Row w x5 p.clock
variable {x1 x2 x3 x4 x5 x6:Value}{d:NdS}{p:Pcl}
theorem NdF.off(h:NdF S w x1 x2 x3 x4 x5 x6 d)(ho:Off S w w'):NdF S w' x1 x2 x3 x4 x5 x6 d:=⟨h.st.off ho,h.base.off ho,h.log.off ho,h.kn.off ho⟩
theorem PcF.off(h:PcF S w x1 x2 x3 x4 x5 p)(ho:Off S w w'):PcF S w' x1 x2 x3 x4 x5 p:=⟨h.st.off ho,h.ups.off ho,h.clk.off ho⟩
theorem NdF.node(h:NdF S w x1 x2 x3 x4 x5 x6 d):Vp w (.agg #[.int .i64 d.self,x1,x2,x3,x4,x5,x6]) d:=⟨_,_,_,_,_,_,rfl,h.st.here,h.base.here,h.log.log,h.kn.kn⟩
theorem PcF.pcl(h:PcF S w x1 x2 x3 x4 x5 p):IsPcl w (.agg #[.bool p.whole,x1,x2,x3,x4,x5]) p:=⟨_,_,_,_,_,rfl,h.st.here,h.ups.log,h.clk.here⟩
theorem Og.less{a b:Nat}{v:Value}{l:List Upd}(h:Og (Us S a b) w v l):Og S w v l:=by
 obtain⟨ps,h1,h2,h3⟩:=h;exact⟨ps,h1,h2.less,fun p hp=>(h3 p hp).less⟩
theorem Og.more{b:Nat}{v:Value}{l:List Upd}(h:Og S w v l)(hb:Below w.heap.size w w'):Og (Us S w.heap.size b) w' v l:=by
 obtain⟨ps,h1,h2,h3⟩:=h;exact⟨ps,h1,h2.more hb,fun p hp=>(h3 p hp).more hb⟩
theorem NdF.less{a b:Nat}(h:NdF (Us S a b) w x1 x2 x3 x4 x5 x6 d):NdF S w x1 x2 x3 x4 x5 x6 d:=by
 obtain⟨h1,h2,h3,qs,k1,k2,k3⟩:=h;exact⟨h1.less,h2.less,h3.less,qs,k1,k2.less,fun p hp=>(k3 p hp).less⟩
theorem NdF.more{b:Nat}(h:NdF S w x1 x2 x3 x4 x5 x6 d)(hb:Below w.heap.size w w'):NdF (Us S w.heap.size b) w' x1 x2 x3 x4 x5 x6 d:=by
 obtain⟨h1,h2,h3,qs,k1,k2,k3⟩:=h;exact⟨h1.more hb,h2.more hb,h3.more hb,qs,k1,k2.more hb,fun p hp=>(k3 p hp).more hb⟩
theorem NdF.none:NdF S w (.slice none 0 0) (.slice none 0 0) (.slice none 0 0) (.slice none 0 0) (.slice none 0 0) (.slice none 0 0) Yu:=
 ⟨fun _ _=>⟨_,_,_,rfl,Row.nil _,Yf.nil _,Yf.nil _⟩,fun _ _=>Row.nil _,⟨[],rfl,fun _ _=>Yf.nil _,fun _ h=>by simp at h⟩,[],rfl,fun _ _=>Yf.nil _,fun _ h=>by simp at h⟩
end

theorem xW(w:World)(cs:List Value)(t:TypeId):∃W,Hid (w.alloc (.cells cs.toArray t)=W)∧Hid (Box W w.heap.size cs t)∧Hid (Below w.heap.size w W)∧Hid (W.heap.size=w.heap.size+1):=
 ⟨_,rfl,Box.new w cs t,bpl w _,World.size_alloc _ _⟩
theorem lay2(w:World)(cs:List Value)(t:TypeId)(cs':List Value)(t':TypeId):∃W,Hid ((w.alloc (.cells cs.toArray t)).alloc (.cells cs'.toArray t')=W)∧Hid (Box W w.heap.size cs t)∧Hid (Box W (w.heap.size+1) cs' t')∧Hid (Below w.heap.size w W)∧Hid (W.heap.size=w.heap.size+1+1):=by
 have h:=Box.new (w.alloc (.cells cs.toArray t)) cs' t';rw[World.size_alloc]at h;exact⟨_,rfl,(Box.new w cs t).plus _,h,Below.plus (bpl w _) _,by unfold Hid;rw[World.size_alloc,World.size_alloc]⟩
theorem lay3(w:World)(cs:List Value)(t:TypeId)(cs':List Value)(t':TypeId)(cs2:List Value)(t2:TypeId):∃W,Hid (((w.alloc (.cells cs.toArray t)).alloc (.cells cs'.toArray t')).alloc (.cells cs2.toArray t2)=W)∧Hid (Box W w.heap.size cs t)∧Hid (Box W (w.heap.size+1) cs' t')∧Hid (Box W (w.heap.size+1+1) cs2 t2)∧Hid (Below w.heap.size w W)∧Hid (W.heap.size=w.heap.size+1+1+1):=by
 obtain⟨W,rfl,h1,h2,h3,h4⟩:=lay2 w cs t cs' t';obtain⟨_,rfl,k2,k3,k4⟩:=xW ((w.alloc (.cells cs.toArray t)).alloc (.cells cs'.toArray t')) cs2 t2;unfold Hid at*;rw[h4]at k2 k4;exact⟨_,rfl,h1.plus _,h2.plus _,k2,Zb h3 k3,k4⟩

set_option maxRecDepth 100000 in
set_option maxHeartbeats 4000000 in
theorem hasU_ref(v uv:Value)(xs:List Int)(u:Upd)(w:World)(h:Row w v xs)(hu:Jf w uv u)(hf:FitU u)(hx:u.author<xs.length):
  Calls Tryz.prog 54 #[v,uv] w fun e w'=>e=.returned (.bool (Xu u xs))∧Below w.heap.size w w':=by
 obtain⟨ua,us,uk,uy,ui⟩:=u;obtain⟨sv,rfl,hs⟩:=hu;obtain⟨h0,h1,-,-⟩:=hf
 simp only at h0 h1 hx hs ⊢
 obtain⟨k,rfl⟩:∃k:Nat,ua=k:=⟨ua.toNat,by omega⟩;obtain⟨a0,c0,rfl,-⟩:=id h;obtain⟨a5,c5,rfl,-⟩:=id hs;obtain⟨sb,so,rfl,hy⟩:=rowAtC hs (show k<us.length by omega);obtain⟨y,HY⟩:∃y,Hid (us.getD k 0=y):=⟨_,rfl⟩;obtain⟨x,HX⟩:∃x,Hid (xs.getD k 0=x):=⟨_,rfl⟩
 have HS:Hid (Xu ⟨k,us,uk,uy,ui⟩ xs=decide (y<x)):=by
  unfold Hid Xu Vy Uc;simp only[Int.toNat_natCast,HY.out,HX.out];exact decide_eq_decide.2 ⟨fun g=>by omega,fun g=>⟨by omega,hx,by omega⟩⟩
 rw[HS.out];rw[HY.out]at hy;obtain⟨W,HW,G0,HB0,-⟩:=xW w [.int .i64 (k:Int),.slice (some ⟨sb,so,none⟩) us.length c5,.int .i64 uk,.int .i64 uy,.int .i64 ui] 33;have R0:=Za (h.below HB0.out (nlr _));have hyW:=Yi HB0.out hy;have HK:=Za fun w' (hg:Zh W w')=>And.intro (G0.below hg (nlr _)).c2 (Yi hg hyW);have hk1:(k:Int)<(us.length:Int):=h1;clear h hs hy h0 h1 hx hyW HS
 go_enter Tryz.func54,Tryz.ntmps54
 go_upto_region 1 with fail
 rw[HW.out]
 by_cases hlt:y<x
 ·skip
  refine bD (fun _=>false) (fun _=>True) (Zi _) HK.out fun wd hcd hHeld=>?_;refine yD 0 (.slice a0 xs.length c0) ?_;refine yD 1 (.pointer (some ⟨w.heap.size,0,none⟩)) ?_;refine yD 2 (.int .i64 (k:Int)) ?_;refine yD 4 (.pointer (some ⟨w.heap.size,1,none⟩)) ?_;refine yD 5 (.slice (some ⟨sb,so,none⟩) us.length c5) ?_;refine yD 6 (.pointer (some ⟨w.heap.size,0,none⟩)) ?_;refine yD 7 (.int .i64 (k:Int)) ?_;refine yD 8 (.pointer (some ⟨sb,so+k,none⟩)) ?_;refine yD 9 (.int .i64 y) ?_;refine oD 3 fun K hK=>?_;go_simp;refine(at_ref _ xs k _ (R0.below hcd (nlr _))).mono ?_;rintro e w' ⟨rfl,rfl⟩;rw[HX.out];go_simp;have hH_3:=HK.out _ hcd;refine kS hK hH_3 ?_;clear hK K;refine yD 10 (.bool true) ?_;refine oD 11 fun K hK=>?_;go_simp;have hH_a:=HK.out _ hcd;refine kS hK hH_a ?_;clear hK K;refine eD ?_
  go_wp2_with fail
  go_ret
  exact⟨by rw[decide_eq_true (by omega)];rfl,HB0.trans (hcd.mono HB0.size)⟩
 skip
 refine bD (fun _=>false) (fun _=>True) (Zi _) HK.out fun wd hcd hHeld=>?_;refine yD 0 (.slice a0 xs.length c0) ?_;refine yD 1 (.pointer (some ⟨w.heap.size,0,none⟩)) ?_;refine yD 2 (.int .i64 (k:Int)) ?_;refine yD 4 (.pointer (some ⟨w.heap.size,1,none⟩)) ?_;refine yD 5 (.slice (some ⟨sb,so,none⟩) us.length c5) ?_;refine yD 6 (.pointer (some ⟨w.heap.size,0,none⟩)) ?_;refine yD 7 (.int .i64 (k:Int)) ?_;refine yD 8 (.pointer (some ⟨sb,so+k,none⟩)) ?_;refine yD 9 (.int .i64 y) ?_;refine oD 3 fun K hK=>?_;go_simp;refine(at_ref _ xs k _ (R0.below hcd (nlr _))).mono ?_;rintro e w' ⟨rfl,rfl⟩;rw[HX.out];go_simp;have hH_3:=HK.out _ hcd;refine kS hK hH_3 ?_;clear hK K;refine yD 10 (.bool false) ?_;refine oD 11 fun K hK=>?_;go_simp;have hH_a:=HK.out _ hcd;refine kS hK hH_a ?_;clear hK K;refine eD ?_
 go_wp2_with fail
 go_ret
 exact⟨by rw[decide_eq_false (by omega)];rfl,HB0.trans (hcd.mono HB0.size)⟩

def lackP(ps:List (Upd×Value))(xs:List Int):List (Upd×Value):=ps.filter fun p=> !Xu p.1 xs
theorem lackP_map(ps:List (Upd×Value))(xs:List Int):(lackP ps xs).map (·.1)=Yc (ps.map (·.1)) xs:=by
 unfold lackP Yc;rw[List.filter_map];rfl

set_option maxRecDepth 100000 in
set_option maxHeartbeats 4000000 in
theorem lacks_ref(lv cv:Value)(ps:List (Upd×Value))(xs:List Int)(w:World)(hl:Yf 5 encP w lv ps)(hr:∀p ∈ ps,Row w p.2 p.1.seen)(hc:Row w cv xs)(hf:∀p ∈ ps,FitU p.1∧p.1.author<xs.length)(hn:ps.length≤1000000):
  Calls Tryz.prog 46 #[lv,cv] w fun e w'=>∃rv,e=.returned rv∧w'.ownsRow w.heap.size 33 5 rv (lackP ps xs).length (Um (lackP ps xs))∧Below w.heap.size w w':=by
 obtain⟨i0,hi,hz0,hz1,hz2⟩:=info_parts Tryz.infoUpd;obtain⟨a',cap',rfl,-,-,-⟩:=id hl;obtain⟨a0,c0,rfl,-⟩:=id hc;have HL:=Za hl;have HC:=Za hc;have HR:=Za hr;have HF:=Za hf;clear hl hc hr hf
 go_enter Tryz.func46,Tryz.ntmps46
 go_wp2_with fail
 go_loopw [5,10] (fun o i wr=>∃k:Nat,k≤ps.length∧i=.int .i64 k∧Hid (wr.ownsRow w.heap.size 33 5 o (lackP (ps.take k) xs).length (Um (lackP (ps.take k) xs)))∧Hid (Below w.heap.size w wr)) (fun _ i _=>ps.length - (intOf i).toNat)
 case atStart=>exact⟨0,Nat.zero_le _,rfl,World.ownsRow_nil _ _ _ _,Below.refl _ _⟩
 obtain⟨k,hk,rfl,O0,HB0⟩:=hrel;obtain⟨w0,rfl⟩:∃w0,w0=wr:=⟨wr,rfl⟩;obtain⟨Q,HQ⟩:∃Q,Hid (lackP (ps.take k) xs=Q):=⟨_,rfl⟩;rw[HQ.out]at O0
 by_cases hlt:k<ps.length
 ·obtain⟨⟨⟨ua,us,uk,uy,ui⟩,sv⟩,hu⟩:∃p,ps[k]? =some p:=⟨_,List.getElem?_eq_getElem hlt⟩;have hm:=List.mem_of_getElem? hu;obtain⟨hfu,hax⟩:=HF.out _ hm;have hs:=(HR.out _ hm).below HB0.out (nlr _);obtain⟨b,off,rfl,hc⟩:=(HL.below HB0.out (nlr _)).at hu;obtain⟨a5,c5,hsv,-⟩:=id hs
  simp only at hsv hs hax
  subst hsv;have d0:w0.cell? ⟨b,off+k*5,none⟩=some (.int .i64 ua):=hc 0 _ rfl;have d1:=hc 1 _ rfl;have d2:=hc 2 _ rfl;have d3:=hc 3 _ rfl;have d4:=hc 4 _ rfl;obtain⟨sn,HSN⟩:∃sn,Hid (Xu ⟨ua,us,uk,uy,ui⟩ xs=sn):=⟨_,rfl⟩
  have HT:Hid (lackP (ps.take (k+1)) xs=if sn=true then Q else Q++[(⟨ua,us,uk,uy,ui⟩,.slice a5 us.length c5)]):=by
   unfold Hid lackP;rw[List.take_add_one,hu,List.filter_append,←HQ.out,←HSN.out];unfold lackP
   by_cases h:Xu ⟨ua,us,uk,uy,ui⟩ xs=true <;> simp[h]
  have hql:Hid (Q.length≤1000000):=by
   unfold Hid;rw[←HQ.out];have:=List.length_filter_le (fun p:Upd×Value=> !Xu p.1 xs) (ps.take k);have h3:=List.length_take (i:=k) (l:=ps);unfold lackP;omega
  have hlt':(k:Int)<(ps.length:Int):=by omega
  have q0:¬ua<0:=by have:=hfu.1;simp only at this;omega
  have q1:¬(us.length:Int)≤ua:=by have:=hfu.2.1;simp only at this;omega
  have q2:¬(xs.length:Int)≤ua:=by omega
  obtain⟨w1,HW1,V1,HB1,hs1⟩:=xW w0 [.int .i64 ua,.slice a5 us.length c5,.int .i64 uk,.int .i64 uy,.int .i64 ui] 33;have O1:=Za (Zp O0.out HB1.out (nlr _));have B1:=Za (Zb HB0.out HB1.out);have S1:=Za (hs.below HB1.out (nlr _));have HFU:=Za hfu;obtain⟨cV0,cV1,cV2,cV3,cV4⟩:=V1.c5;clear hs hc hu hm hfu O0
  go_upto_region 5 with fail
  rw[HW1.out];clear d0 d1 d2 d3 d4
  go_wp2_with fail
  refine(hasU_ref _ _ xs ⟨ua,us,uk,uy,ui⟩ _ (HC.below B1.out (nlr _)) ⟨_,rfl,S1.out⟩ HFU.out hax).mono ?_;rintro e w2 ⟨rfl,hb2⟩;rw[HSN.out];have V2:=Za (V1.below hb2 (nlr _));have O2:=Za (Zp O1.out hb2 (nlr _));have B2:=Za (Zb B1.out hb2);have hsz:=B2.size;clear cV0 cV1 cV2 cV3 cV4 V1 O1 B1 hb2
  cases sn
  ·rw[if_neg (by decide)]at HT;obtain⟨cV0,cV1,cV2,cV3,cV4⟩:=V2.c5;have hone:∀q ∈ Yn ⟨ua,us,uk,uy,ui⟩ (.slice a5 us.length c5),q.oneCell'=true:=Ud rfl
   go_wp2_with (at_builtin;refine wpList_append_own _ rfl (.tmp 38) (.tmp 40) 28 rfl w.heap.size 33 i0 (.agg #[.int .i64 0,.slice none 0 0,.int .i64 0,.int .i64 0,.int .i64 0]) 5 56 Tryz.underlying28 hi hz0 hz1 hz2 rfl (by decide) _ _ _ rfl (Zp O2.out (bpl w2 _) (nlr _)) ⟨w2.heap.size,0,none⟩ 1 1 (Yn ⟨ua,us,uk,uy,ui⟩ (.slice a5 us.length c5)) rfl rfl ?c1 hone ?c3 ?c4 ?c5 ?_)
   case c1=>exact(Box.new w2 (Yn ⟨ua,us,uk,uy,ui⟩ (.slice a5 us.length c5)) 33).cellsAt
   case c3=>unfold maxLen;have:=hql.out;omega
   case c4=>have:=hql.out;omega
   case c5=>simp;omega
   intro v' w4 hown' hgrow _;have HB4:=Za ((Below.plus B2.out _).grown hgrow (by simp;omega) (fun g hg=>(O2.lt g hg).1));have O4:=Za hown';clear hown' hgrow
   go_wp2_with fail
   go_roundw
   case rel=>exact⟨k+1,by omega,by go_num,by rw[HT.out,List.length_append,cellsP_snoc];exact O4,HB4⟩
   case measure=>simp[intOf];omega
  rw[if_pos rfl]at HT
  go_wp2_with fail
  go_roundw
  case rel=>exact⟨k+1,by omega,by go_num,by rw[HT.out];exact O2,B2⟩
  case measure=>simp[intOf];omega
 have hkl:ps.take k=ps:=List.take_of_length_le (by omega);have hlt':¬(k:Int)<(ps.length:Int):=by omega
 rw[hkl]at HQ
 go_wp2_with fail
 go_ret
 exact⟨_,rfl,by rw[HQ.out];exact O0.out,HB0.out⟩
theorem lacks_fix{S:Nat→Prop}{w0:World}{lv cv:Value}{l:List Upd}{xs:List Int}(w:World)(hl:Og S w lv l)(hc:Row w cv xs)(hf:∀u ∈ l,FitU u∧u.author<xs.length)(hn:l.length≤1000000)(hS:∀k,S k→k<w.heap.size)(_:w0=w):
  Calls Tryz.prog 46 #[lv,cv] w fun e w'=>∃rv,e=.returned rv∧Og S w' rv (Yc l xs)∧Below w.heap.size w w':=by
 obtain⟨ps,rfl,h1,h2⟩:=hl;refine(lacks_ref _ _ ps xs _ h1.here (fun p hp=>(h2 p hp).here) hc (fun p hp=>hf _ (List.mem_map_of_mem hp)) (by simpa using hn)).mono ?_;rintro e w' ⟨rv,rfl,ho,hb⟩;rw[←lackP_map];exact⟨_,rfl,Og.own ho hS fun p hp=>(h2 p ((List.mem_filter.1 hp).1)).off (zM hb (nlr _)),hb⟩
theorem Yf.srcM{α:Type}{sz:Nat}{enc:α→List Value}(he:∀x,(enc x).length=sz){P:Program}{w:World}{v:Value}{l:List α}(h1:∀x ∈ l,∀q ∈ enc x,q.oneCell'=true){tx e':TypeId}(h:Yf sz enc w v l)(hk:P.underlying tx=some (.slice e')):Src P sz tx v l.length (cellsS enc l) w:=by
 have h0:=h;obtain⟨a,cap,rfl,-,-,hc⟩:=h
 cases l with
 |nil=>
  cases a with
  |none=>exact Src.ofNil w hk cap
  |some ad=>exact Src.ofSlice w hk ad 0 cap [] (by simp) (fun j u hj=>by simp at hj) (fun u hu=>by simp at hu)
 |cons x r=>
  obtain⟨b,off,rfl,-⟩:=hc 0 x rfl;refine Src.ofSlice w hk ⟨b,off,none⟩ _ cap _ (Zj he _) (h0.cells he) fun q hq=>?_;obtain⟨y,hy,hq⟩:=List.mem_flatMap.1 hq;exact h1 y hy q hq

set_option maxRecDepth 100000 in
set_option maxHeartbeats 4000000 in
theorem set_ref(lv:Value)(ac:Option Addr)(nc cc i:Nat)(qs:List (List Int×Value))(x:List Int)(w:World)(hl:Yf 1 encK w lv qs)(hi:i<qs.length)(h1:∀q ∈ qs,q.2.oneCell'=true)(hn:qs.length≤1000):
  Calls Tryz.prog 40 #[lv,.int .i64 i,.slice ac nc cc] w fun e w'=>∃rv,e=.returned rv∧w'.ownsRow w.heap.size 23 1 rv (qs.set i (x,.slice ac nc cc)).length (cellsS encK (qs.set i (x,.slice ac nc cc)))∧Below w.heap.size w w':=by
 obtain⟨i0,hi0,hz0,hz1,hz2⟩:=info_parts Tryz.infoClock;obtain⟨W,HW,G0,HB0,hs0⟩:=xW w [] 23;have HSRC:=Za ((hl.below HB0.out (nlr _)).srcM (enc:=encK) (P:=Tryz.prog) (fun _=>rfl) (fun q hq v hv=>by simp only[encK,List.mem_singleton]at hv;rw[hv];exact h1 q hq) Tryz.underlying29);obtain⟨CS,HCS⟩:∃CS,Hid (cellsS encK qs=CS):=⟨_,rfl⟩;rw[HCS.out]at HSRC;have hol:W.ownsRow w.heap.size 23 1 (.slice (some ⟨w.heap.size,0,none⟩) 0 0) 0 []:=by rw[←HW.out];exact World.ownsRow_lit w #[] 0 (nlr _) (Nat.zero_le _) rfl
 clear hl
 go_enter Tryz.func40,Tryz.ntmps40
 go_wp2_with (rw[HW.out];at_builtin;refine Qu _ rfl (.tmp 8) (.tmp 9) 29 29 rfl w.heap.size 23 i0 (.slice none 0 0) 1 24 Tryz.underlying29 hi0 hz0 hz1 hz2 rfl _ 0 [] rfl hol _ rfl qs.length CS HSRC.out ?c1 ?c2 (by rw[hs0.out];omega) ?_)
 case c1=>unfold maxLen;omega
 case c2=>omega
 intro v' w1 hown hgrow;have HB1:=Za (HB0.grown hgrow (by rw[hs0.out];omega) (fun g e=>by simp[Value.ownBlock]at e;omega));rw[←HCS.out]at hown
 rcases Qj hown with⟨-,e⟩|⟨g,cap,rfl,hg,hh,hc1,hc2⟩
 ·rw[e]at hi;simp at hi
 have hr:=hh.room (j:=i) (by omega);obtain⟨old,hold⟩:=Option.isSome_iff_exists.1 hr.1;have hfr:=hr.2;have hset:=Zu.set (enc:=encK) (sz:=1) (fun _=>rfl) hh (x,.slice ac nc cc) hi hc1;have hlt:(i:Int)<(qs.length:Int):=by omega
 rw[Nat.mul_one]at hset;have HO:=Za (Zu.own (enc:=encK) (sz:=1) (B:=w.heap.size) (fun _=>rfl) hset hg (by simpa using hc1) hc2);clear hset hh hr hown hgrow
 go_wp2_with fail
 go_ret
 exact⟨_,rfl,by rw[List.length_set]at HO ⊢;exact HO.out,HB1.setCell hg _⟩
theorem set_fix{S:Nat→Prop}{lv cv:Value}{i:Int}{ks:List (List Int)}{x:List Int}(w:World)(hl:KnF S w lv ks)(hx:Fix S w fun w=>Row w cv x)(h0:0≤i)(hi:i<ks.length)(hn:ks.length≤1000)(hS:∀k,S k→k<w.heap.size):
  Calls Tryz.prog 40 #[lv,.int .i64 i,cv] w fun e w'=>∃rv,e=.returned rv∧KnF S w' rv (ks.set i.toNat x)∧Below w.heap.size w w':=by
 obtain⟨qs,rfl,h1,h2⟩:=hl;obtain⟨k,rfl⟩:∃k:Nat,i=k:=⟨i.toNat,by omega⟩;rw[List.length_map]at hi hn;obtain⟨ac,cc,rfl,-⟩:=id hx.here;refine(set_ref _ _ _ _ k qs x _ h1.here (by omega) (fun q hq=>(h2 q hq).here.one) hn).mono ?_;rintro e w' ⟨rv,rfl,ho,hb⟩;refine⟨_,rfl,?_,hb⟩
 have h:=KnF.own (S:=S) ho hS fun q hq=>by
  rcases List.mem_or_eq_of_mem_set hq with hq|rfl
  ·exact(h2 q hq).off (zM hb (nlr _))
  exact hx.off (zM hb (nlr _))
 rw[List.map_set]at h;exact h
end Go.Proofs.YtfhecilhcofboaaGreat
