/- The document's own Play. -/
import Derived.Test.YtfhecilhcofboaaGreatRfE
import Derived.Test.YtfhecilhcofboaaGreatJoPure
import Derived.Test.YtfhecilhcofboaaGreatLacksPure
namespace Go.Proofs.YtfhecilhcofboaaGreat
open Go.RowKit

theorem errL_onceP{n:Int}:∀(l:List Upd) {xs:List Int},Zn xs n=0→Xf n xs l=0→(∀u ∈ l,xs.getD u.author.toNat 0≤Uc u∧0≤u.author)∧(l.Pairwise fun u v=>u.author.toNat=v.author.toNat→Uc u<Uc v)∧l.Pairwise fun u v=>∀i,i=v.author.toNat→u.seen.getD i 0≤Uc v
 |[],_,_,_=>⟨fun u hu=>by simp at hu,List.Pairwise.nil,List.Pairwise.nil⟩
 |u::r,xs,hg,he=>by
  obtain⟨hw,hr⟩:=Vc he;obtain⟨hg',ht⟩:=Jr hg hw;obtain⟨hwu,hent,hsee⟩:=(Jo hg).1 hw;obtain⟨h1,h2,h3⟩:=errL_onceP r hg' hr;refine⟨fun v hv=>?_,List.pairwise_cons.2 ⟨fun v hv ha=>?_,h2⟩,List.pairwise_cons.2 ⟨fun v hv i hi=>?_,h3⟩⟩
  ·rcases List.mem_cons.1 hv with rfl|hv
   ·exact⟨by omega,(zB hwu).2.1⟩
   have:=h1 v hv;rw[ht]at this
   exact⟨by split at this <;> omega,this.2⟩
  ·have:=(h1 v hv).1;rw[ht,if_pos ha.symm,←ha]at this;omega
  have h4:=(h1 v hv).1;have h5:=hsee i;rw[ht]at h4;subst hi
  split at h4 <;> omega
def Ut(l:List Upd)(x:Zk):Bool:=l.all fun u=> !Yy u x
theorem xM{l:List Upd}{x:Zk}:Ut l x=true↔∀u ∈ l,Yy u x=false:=by
 unfold Ut;rw[List.all_eq_true];exact⟨fun h u hu=>by simpa using h u hu,fun h u hu=>by simp[h u hu]⟩
def keepA(l:List Upd)(out:List Zk)(x:Zk):List Zk:=if Ut l x=true then Js x out else out
def Jv(l:List Upd)(lv:List Zk):List Zk:=lv.foldl (keepA l) []
theorem keptA_snoc{l:List Upd}{lv:List Zk}{k:Nat}{x:Zk}(h:lv[k]? =some x):Jv l (lv.take (k+1))=keepA l (Jv l (lv.take k)) x:=by
 obtain⟨hk,rfl⟩:=List.getElem?_eq_some_iff.1 h;unfold Jv;rw[List.take_succ_eq_append_getElem hk,List.foldl_append];rfl
theorem keptA_all{l:List Upd}{lv:List Zk}(ho:Yx lv):∀k,k≤lv.length→Yx (Jv l (lv.take k))∧(∀z,z ∈ Jv l (lv.take k)↔z ∈ lv.take k∧Ut l z=true)∧(Jv l (lv.take k)).length≤k
 |0,_=>⟨by simp[Jv,Yx],fun z=>by simp[Jv],by simp[Jv]⟩
 |k+1,hk=>by
  obtain⟨h1,h2,h3⟩:=keptA_all ho k (by omega);have hkl:k<lv.length:=by omega
  have hx:=List.getElem?_eq_getElem hkl;obtain⟨x,hxx⟩:∃x,lv[k]=x:=⟨_,rfl⟩;rw[hxx]at hx;rw[keptA_snoc hx];have ht:lv.take (k+1)=lv.take k++[x]:=by rw[←hxx];exact List.take_succ_eq_append_getElem (by omega)
  have hord:∀y ∈ lv.take k,Jd y x:=by
   have hp:(lv.take (k+1)).Pairwise Jd:=List.Pairwise.sublist (List.take_sublist _ _) ho;rw[ht,List.pairwise_append]at hp;exact fun y hy=>hp.2.2 y hy x (by simp)
  generalize Jv l (lv.take k)=out at h1 h2 h3
  unfold keepA
  by_cases hs:Ut l x=true
  ·rw[if_pos hs];refine⟨Qn h1 fun hx'=>Uj x (hord x ((h2 x).1 hx').1),fun z=>?_,by rw[insL_len];omega⟩;rw[yY,h2,ht,List.mem_append,List.mem_singleton]
   constructor
   ·rintro(rfl|⟨h,h'⟩)
    ·exact⟨.inr rfl,hs⟩
    exact⟨.inl h,h'⟩
   rintro⟨h|rfl,h'⟩
   ·exact .inr ⟨h,h'⟩
   exact .inl rfl
  rw[if_neg hs];refine⟨h1,fun z=>?_,by omega⟩;rw[h2,ht,List.mem_append,List.mem_singleton]
  constructor
  ·rintro⟨h,h'⟩;exact⟨.inl h,h'⟩
  rintro⟨h|rfl,h'⟩
  ·exact⟨h,h'⟩
  exact absurd h' hs
def liveU(u:Upd):Zk:=⟨decide (u.kind=3),u.key,u.item,u.author,Uc u+1⟩
theorem newL_iff{u:Upd}{x:Zk}:xR u=some x↔(u.kind=1∨u.kind=3)∧liveU u=x:=by
 unfold xR liveU
 split
 ·next h=>simp[h]
 next h=>simp[h]
def keepB(l:List Upd)(out:List Zk)(k:Nat)(u:Upd):List Zk:=if(u.kind=1∨u.kind=3)∧Ut (l.drop (k+1)) (liveU u)=true then Js (liveU u) out else out
def Oo(l:List Upd)(out:List Zk):Nat→List Zk
 |0=>out
 |k+1=>match l[k]? with|some u=>keepB l (Oo l out k) k u|none=>Oo l out k
theorem keptB_snoc{l:List Upd}{out:List Zk}{k:Nat}{u:Upd}(h:l[k]? =some u):Oo l out (k+1)=keepB l (Oo l out k) k u:=by rw[Oo,h]
section
variable {n:Int}{l:List Upd}{c:List Int}{lv:List Zk}
theorem keptB_all(hg:Zn c n=0)(he:Xf n c l=0)(hb:Bound c lv)(ho:Yx lv):∀k,k≤l.length→Yx (Oo l (Jv l lv) k)∧(∀z,z ∈ Oo l (Jv l lv) k↔(z ∈ lv∧Ut l z=true)∨∃i u,i<k∧l[i]? =some u∧xR u=some z∧Ut (l.drop (i+1)) z=true)∧(Oo l (Jv l lv) k).length≤lv.length+k
 |0,_=>by
  obtain⟨h1,h2,h3⟩:=keptA_all (l:=l) ho lv.length (nlr _);rw[List.take_length]at h1 h2 h3;refine⟨h1,fun z=>?_,by rw[Oo];omega⟩;rw[Oo,h2];exact⟨.inl,fun h=>h.elim id (fun⟨i,u,hi,_⟩=>absurd hi (by omega))⟩
 |k+1,hk=>by
  obtain⟨h1,h2,h3⟩:=keptB_all hg he hb ho k (by omega);obtain⟨o1,o2,o3⟩:=errL_onceP l hg he;obtain⟨u,hu⟩:∃u,l[k]? =some u:=⟨_,List.getElem?_eq_getElem (by omega)⟩;have hul:=List.mem_of_getElem? hu;rw[keptB_snoc hu]
  generalize Oo l (Jv l lv) k=out at h1 h2 h3
  unfold keepB
  have hmem:∀z,((z ∈ lv∧Ut l z=true)∨∃i v,i<k+1∧l[i]? =some v∧xR v=some z∧Ut (l.drop (i+1)) z=true)↔z ∈ out∨(xR u=some z∧Ut (l.drop (k+1)) z=true):=by
   intro z;rw[h2]
   constructor
   ·rintro(h|⟨i,v,hi,hv,hh⟩)
    ·exact .inl (.inl h)
    rcases Nat.lt_or_ge i k with hlt|hge
    ·exact .inl (.inr ⟨i,v,hlt,hv,hh⟩)
    obtain rfl:i=k:=by omega
    rw[hu]at hv
    cases hv
    exact .inr hh
   rintro((h|⟨i,v,hi,hh⟩)|hh)
   ·exact .inl h
   ·exact .inr ⟨i,v,by omega,hh⟩
   exact .inr ⟨k,u,by omega,hu,hh⟩
  have hnot:liveU u ∉ out:=by
   intro hz
   rcases(h2 _).1 hz with⟨hz,-⟩|⟨i,v,hi,hv,hn,-⟩
   ·obtain⟨b1,b2,b3⟩:=hb _ hz;have:=(o1 u hul).1;simp only[liveU]at b3;omega
   obtain⟨-,hvu⟩:=newL_iff.1 hn;have ha:v.author=u.author:=congrArg Zk.author hvu;have hs:Uc v+1=Uc u+1:=congrArg Zk.seq hvu;have hp:=List.pairwise_iff_getElem.1 o2 i k (by omega) (by omega) hi;rw[(List.getElem?_eq_some_iff.1 hv).2,(List.getElem?_eq_some_iff.1 hu).2]at hp;have:=hp (by rw[ha]);omega
  by_cases hc:(u.kind=1∨u.kind=3)∧Ut (l.drop (k+1)) (liveU u)=true
  ·rw[if_pos hc];refine⟨Qn h1 hnot,fun z=>?_,by rw[insL_len];omega⟩;rw[yY,hmem]
   constructor
   ·rintro(rfl|h)
    ·exact .inr ⟨newL_iff.2 ⟨hc.1,rfl⟩,hc.2⟩
    exact .inl h
   rintro(h|⟨h,-⟩)
   ·exact .inr h
   exact .inl (newL_iff.1 h).2.symm
  rw[if_neg hc];refine⟨h1,fun z=>?_,by omega⟩;rw[hmem]
  constructor
  ·exact .inl
  rintro(h|⟨h,h'⟩)
  ·exact h
  obtain⟨q1,q2⟩:=newL_iff.1 h;exact absurd ⟨q1,by rw[q2];exact h'⟩ hc
theorem play_lives(hg:Zn c n=0)(he:Xf n c l=0)(hb:Bound c lv)(ho:Yx lv):Oo l (Jv l lv) l.length=playLv lv l:=by
 obtain⟨h1,h2,-⟩:=keptB_all hg he hb ho l.length (nlr _);obtain⟨o1,-,o3⟩:=errL_onceP l hg he;refine inOrder_ext h1 (inOrder_playLv l hg he hb ho).1 fun x=>?_;rw[h2,mem_playLv l hg he hb]
 constructor
 ·rintro(⟨h,h'⟩|⟨i,u,hi,hu,hn,hs⟩)
  ·exact⟨.inl h,xM.1 h'⟩
  refine⟨.inr ⟨u,List.mem_of_getElem? hu,hn⟩,fun v hv=>?_⟩;obtain⟨j,hj,rfl⟩:=List.getElem_of_mem hv
  rcases Nat.lt_or_ge i j with hlt|hge
  ·exact xM.1 hs _ (by
    refine List.mem_of_getElem? (i:=j - (i+1)) ?_
    rw[List.getElem?_drop,show i+1+(j - (i+1))=j by omega,List.getElem?_eq_getElem hj])
  obtain⟨-,hx⟩:=newL_iff.1 hn;refine not_ends ?_;rw[←hx]
  show(l[j]).seen.getD u.author.toNat 0<Uc u+1
  rcases Nat.lt_or_ge j i with hji|hji
  ·have hp:=List.pairwise_iff_getElem.1 o3 j i hj hi hji;rw[(List.getElem?_eq_some_iff.1 hu).2]at hp;have:=hp _ rfl;omega
  obtain rfl:j=i:=by omega
  rw[(List.getElem?_eq_some_iff.1 hu).2]
  show Uc u<Uc u+1
  omega
 rintro⟨h|⟨u,hu,hn⟩,hs⟩
 ·exact .inl ⟨h,xM.2 hs⟩
 obtain⟨i,hi,rfl⟩:=List.getElem_of_mem hu;exact .inr ⟨i,_,hi,List.getElem?_eq_getElem hi,hn,xM.2 fun v hv=>hs v (List.mem_of_mem_drop hv)⟩
end
def Ot(ts:List Tal)(k a:Int):Int:=match ts with
 |[]=>0
 |t::r=>(if t.key=k∧t.author=a then t.sum else 0)+Ot r k a
theorem sumA_getT{k a:Int}:∀{ts:List Tal},Ur ts→Ot ts k a=Qs ts k a
 |[],_=>rfl
 |t::r,h=>by
  have hr:Ur r:=(List.pairwise_cons.1 h).2;unfold Ot Qs
  split
  ·next hc=>
   have:=getT_head h;rw[hc.1,hc.2]at this;rw[sumA_getT hr,this];omega
  rw[sumA_getT hr];omega
def tlsI(ts:List Tal)(l:List Upd)(key:Nat):Nat→List Tal
 |0=>[]
 |a+1=>tlsI ts l key a++if Ot ts key a+Qg l key a=0 then[]else[⟨key,a,Ot ts key a+Qg l key a⟩]
def tlsK(ts:List Tal)(l:List Upd)(n:Nat):Nat→List Tal
 |0=>[]
 |k+1=>tlsK ts l n k++tlsI ts l k n
theorem yR{ts:List Tal}{l:List Upd}{key:Nat}:∀(n:Nat) (t:Tal),t ∈ tlsI ts l key n↔∃a:Nat,a<n∧t=⟨key,a,Ot ts key a+Qg l key a⟩∧t.sum≠0
 |0,t=>by simp[tlsI]
 |n+1,t=>by
  unfold tlsI;rw[List.mem_append,yR n t]
  constructor
  ·rintro(⟨a,ha,h⟩|h)
   ·exact⟨a,by omega,h⟩
   split at h
   ·simp at h
   next hn=>exact⟨n,by omega,List.mem_singleton.1 h,by rw[List.mem_singleton.1 h];exact hn⟩
  rintro⟨a,ha,h,h'⟩
  rcases Nat.lt_or_ge a n with hlt|hge
  ·exact .inl ⟨a,hlt,h,h'⟩
  obtain rfl:a=n:=by omega
  refine .inr ?_;rw[if_neg (by rw[h]at h';exact h'),h]
  simp
theorem tlsI_ord{ts:List Tal}{l:List Upd}{key:Nat}:∀n,Ur (tlsI ts l key n)
 |0=>by simp[tlsI,Ur]
 |n+1=>by
  unfold tlsI Ur;rw[List.pairwise_append]
  refine⟨tlsI_ord n,by split <;> simp,fun x hx y hy=>?_⟩
  obtain⟨a,ha,h,-⟩:=(yR n x).1 hx
  split at hy
  ·simp at hy
  rw[List.mem_singleton.1 hy,h];exact .inr ⟨rfl,by show(a:Int)<(n:Int);omega⟩
theorem tlsK_all{ts:List Tal}{l:List Upd}{n:Nat}:∀k,Ur (tlsK ts l n k)∧∀t,t ∈ tlsK ts l n k↔∃key:Nat,key<k∧t ∈ tlsI ts l key n
 |0=>⟨by simp[tlsK,Ur],fun t=>by simp[tlsK]⟩
 |k+1=>by
  obtain⟨h1,h2⟩:=tlsK_all (ts:=ts) (l:=l) (n:=n) k;unfold tlsK;refine⟨?_,fun t=>?_⟩
  ·unfold Ur;rw[List.pairwise_append];refine⟨h1,tlsI_ord n,fun x hx y hy=>?_⟩;obtain⟨key,hk,hx⟩:=(h2 x).1 hx;obtain⟨a,-,ea,-⟩:=(yR n x).1 hx;obtain⟨b,-,eb,-⟩:=(yR n y).1 hy;rw[ea,eb];exact .inl (by show(key:Int)<(k:Int);omega)
  rw[List.mem_append,h2]
  constructor
  ·rintro(⟨key,hk,h⟩|h)
   ·exact⟨key,by omega,h⟩
   exact⟨k,by omega,h⟩
  rintro⟨key,hk,h⟩
  rcases Nat.lt_or_ge key k with hlt|hge
  ·exact .inl ⟨key,hlt,h⟩
  obtain rfl:key=k:=by omega
  exact .inr h
theorem play_tals{n:Nat}{l:List Upd}{c:List Int}{lv:List Zk}{ts:List Tal}(hs:OkS n c lv ts)(he:Xf n c l=0):tlsK ts l n 16=playT ts l:=by
 have hp:=OkS.play l hs he;obtain⟨p1,p2,p3⟩:=playT_all l hs.ord hs.full;obtain⟨h1,h2⟩:=tlsK_all (ts:=ts) (l:=l) (n:=n) 16;refine ordT_ext h1 p1 fun t=>?_;rw[h2,yZ p1 p2,p3]
 constructor
 ·rintro⟨key,-,h⟩;obtain⟨a,-,e,hn⟩:=(yR n t).1 h;rw[e]at hn ⊢;exact⟨by rw[sumA_getT hs.ord],hn⟩
 rintro⟨h,hn⟩;have hm:t ∈ playT ts l:=(yZ p1 p2 t).2 ⟨by rw[p3];exact h,hn⟩;have hk:=hp.tals t hm;unfold yS at hk;obtain⟨a,ha⟩:∃a:Nat,t.author=a:=⟨t.author.toNat,by omega⟩;obtain⟨k,hkk⟩:∃k:Nat,t.key=k:=⟨t.key.toNat,by omega⟩;refine⟨k,by omega,(yR n t).2 ⟨a,by omega,?_,hn⟩⟩;rw[sumA_getT hs.ord,←hkk,←ha,h]
theorem box_grownP{w w':World}{e t:TypeId}{sz n B g:Nat}{v:Value}{xs cs:List Value}(h:Box w g cs t)(hr:w.ownsRow B e sz v n xs)(hg:w.grownBy w' v.ownBlock)(hte:t≠e):Box w' g cs t:=by
 unfold Box;rw[hg.block g h.lt (fun e=>Uv hr h hte e.symm)];exact h
theorem wrongU_kind{u:Upd}{n:Int}(h:Zz u n=0):1≤u.kind∧u.kind≤5:=by
 unfold Zz at h
 split at h
 ·next h1=>exact absurd h h1
 split at h
 ·cases h
 split at h
 ·cases h
 omega
theorem clock_few{xs:List Int}{l:List Upd}{n:Int}(hc:Zn xs n=0)(h:Xb xs l n=0):l.length≤300:=by
 unfold Xb at h;rw[if_neg (by simpa using hc)]at h
 split at h
 ·cases h
 omega
theorem wrongU_item{u:Upd}{n:Int}(h:Zz u n=0):-1000≤u.item∧u.item≤1000:=by
 unfold Zz at h
 split at h
 ·next h1=>exact absurd h h1
 split at h
 ·cases h
 split at h
 ·cases h
 split at h
 ·cases h
 next h4=>
 unfold farU at h4;simp only[decide_eq_true_eq]at h4;omega
theorem talOk_sum{n:Int}{c:List Int}{t:Tal}(hc:Zn c n=0)(h:yS n c t):-1000000≤t.sum∧t.sum≤1000000:=by
 have:=(Zm.1 hc).2.2.2 t.author.toNat;unfold yS at h;omega
theorem sumA_app{k a:Int}{t:Tal}:∀{ts:List Tal},Ot (ts++[t]) k a=Ot ts k a+(if t.key=k∧t.author=a then t.sum else 0)
 |[]=>by simp[Ot]
 |x::r=>by
  rw[List.cons_append,Ot,Ot,sumA_app];omega
theorem sumA_take{k a:Int}{ts:List Tal}{j:Nat}{t:Tal}(h:ts[j]? =some t):Ot (ts.take (j+1)) k a=Ot (ts.take j) k a+(if t.key=k∧t.author=a then t.sum else 0):=by
 obtain⟨hj,rfl⟩:=List.getElem?_eq_some_iff.1 h;rw[List.take_succ_eq_append_getElem hj,sumA_app]
theorem sumA_bound{k a:Int}{ts:List Tal}(h:∀t ∈ ts,-1000000≤t.sum∧t.sum≤1000000)(j:Nat):-1000000*(ts.length:Int)≤Ot (ts.take j) k a∧Ot (ts.take j) k a≤1000000*(ts.length:Int):=by
 induction ts generalizing j with
 |nil=>simp[Ot]
 |cons t r ih=>
  cases j with
  |zero=>simp only[List.take_zero,Ot,List.length_cons];omega
  |succ j=>
   have h1:=ih (fun x hx=>h x (by simp[hx])) j;have h2:=h t (by simp);rw[List.take_succ_cons,Ot,List.length_cons]
   split <;> omega
theorem sumU_app{k a:Int}{u:Upd}:∀{l:List Upd},Qg (l++[u]) k a=Qg l k a+cntU u k a
 |[]=>by simp[Qg]
 |x::r=>by
  rw[List.cons_append,Qg,Qg,sumU_app];omega
theorem sumU_take{k a:Int}{l:List Upd}{j:Nat}{u:Upd}(h:l[j]? =some u):Qg (l.take (j+1)) k a=Qg (l.take j) k a+cntU u k a:=by
 obtain⟨hj,rfl⟩:=List.getElem?_eq_some_iff.1 h;rw[List.take_succ_eq_append_getElem hj,sumU_app]
theorem sumU_bound{k a:Int}{l:List Upd}(h:∀u ∈ l,-1000≤u.item∧u.item≤1000)(j:Nat):-1000*(l.length:Int)≤Qg (l.take j) k a∧Qg (l.take j) k a≤1000*(l.length:Int):=by
 induction l generalizing j with
 |nil=>simp[Qg]
 |cons u r ih=>
  cases j with
  |zero=>simp only[List.take_zero,Qg,List.length_cons];omega
  |succ j=>
   have h1:=ih (fun x hx=>h x (by simp[hx])) j;have h2:=h u (by simp);rw[List.take_succ_cons,Qg,List.length_cons];unfold cntU
   split <;> omega
theorem tlsI_len{ts:List Tal}{l:List Upd}{key:Nat}:∀a,(tlsI ts l key a).length≤a
 |0=>by simp[tlsI]
 |a+1=>by
  rw[tlsI,List.length_append];have:=tlsI_len (ts:=ts) (l:=l) (key:=key) a
  split <;> simp <;> omega
theorem tlsK_len{ts:List Tal}{l:List Upd}{n:Nat}:∀k,(tlsK ts l n k).length≤k*n
 |0=>by simp[tlsK]
 |k+1=>by
  rw[tlsK,List.length_append,Nat.succ_mul];have:=tlsK_len (ts:=ts) (l:=l) (n:=n) k;have:=tlsI_len (ts:=ts) (l:=l) (key:=k) n;omega
structure PI (W1 w:World) (B C go:Nat) (r lv tv:Value) (c:List Int) (L:List Zk) (TL:List Tal):Prop where
 box:Box w go [r,lv,tv] 27
 ck:Own w C r c
 lv:Xm 106 5 Zv w B lv L
 tl:Xm 108 3 Yb w B tv TL
 bl:Below B W1 w
 ge:B≤go
section
variable {W1 w w':World}{B C go:Nat}{r lv tv:Value}{c:List Int}{L:List Zk}{TL:List Tal}
theorem PI.below(h:PI W1 w B C go r lv tv c L TL)(hb:Below w.heap.size w w'):PI W1 w' B C go r lv tv c L TL:=
 ⟨h.box.below hb (nlr _),h.ck.below hb (nlr _),h.lv.below hb (nlr _),h.tl.below hb (nlr _),h.bl.trans (hb.mono (Nat.le_trans h.ge (Nat.le_of_lt h.box.lt))),h.ge⟩
theorem PI.setL(h:PI W1 w B C go r lv tv c L TL){v:Value}{M:List Zk}(hm:Xm 106 5 Zv w B v M):PI W1 (w.setCell ⟨go,1,none⟩ v) B C go r v tv c M TL:=
 ⟨by have:=h.box.set 1 v;simpa using this,Yd h.ck h.box (by decide) 1 v,Yd hm h.box (by decide) 1 v,Yd h.tl h.box (by decide) 1 v,h.bl.setCell (p:=⟨go,1,none⟩) h.ge v,h.ge⟩
theorem PI.setT(h:PI W1 w B C go r lv tv c L TL){v:Value}{M:List Tal}(hm:Xm 108 3 Yb w B v M):PI W1 (w.setCell ⟨go,2,none⟩ v) B C go r lv v c L M:=
 ⟨by have:=h.box.set 2 v;simpa using this,Yd h.ck h.box (by decide) 2 v,Yd h.lv h.box (by decide) 2 v,Yd hm h.box (by decide) 2 v,h.bl.setCell (p:=⟨go,2,none⟩) h.ge v,h.ge⟩
theorem PI.grown(h:PI W1 w B C go r lv tv c L TL)(hg:w.grownBy w' tv.ownBlock)(hB:B≤w.heap.size):Box w' go [r,lv,tv] 27∧Own w' C r c∧Xm 106 5 Zv w' B lv L∧Below B W1 w':=
 ⟨box_grownP h.box h.tl hg (by decide),Xt h.ck h.tl hg (by decide),Xt h.lv h.tl hg (by decide),h.bl.grown hg hB (fun g hgg=>(World.ownsRow.lt h.tl g hgg).1)⟩
end
theorem PI.other{W1 w:World}{B C go gf:Nat}{r lv tv:Value}{c:List Int}{L:List Zk}{TL:List Tal}{cs:List Value}(h:PI W1 w B C go r lv tv c L TL)(hf:Box w gf cs 27)(hne:¬go=gf)(hge:B≤gf)(i:Nat)(v:Value):PI W1 (w.setCell ⟨gf,i,none⟩ v) B C go r lv tv c L TL:=
 ⟨h.box.away hne,Yd h.ck hf (by decide) i v,Yd h.lv hf (by decide) i v,Yd h.tl hf (by decide) i v,h.bl.setCell (p:=⟨gf,i,none⟩) hge v,h.ge⟩
theorem PI.setT2{W1 w:World}{B C go:Nat}{r lv tv v:Value}{c:List Int}{L:List Zk}{M:List Tal}(hb:Box w go [r,lv,tv] 27)(hc:Own w C r c)(hl:Xm 106 5 Zv w B lv L)(hm:Xm 108 3 Yb w B v M)(hw:Below B W1 w)(hg:B≤go):PI W1 (w.setCell ⟨go,2,none⟩ v) B C go r lv v c L M:=
 ⟨by have:=hb.set 2 v;simpa using this,Yd hc hb (by decide) 2 v,Yd hl hb (by decide) 2 v,Yd hm hb (by decide) 2 v,hw.setCell (p:=⟨go,2,none⟩) hg v,hg⟩
set_option maxRecDepth 100000 in
set_option maxHeartbeats 4000000 in
theorem play_ref4(v ul:Value)(s:StS)(l:List Upd)(w:World)(h:Jp w v s)(hl:Vh w ul l):
  Calls Tryz.prog 39 #[v,ul] w fun e w'=>∃rv,e=.returned (.tuple #[rv,.agg #[.int .i64 (Ol s l),.int .i64 (playA s l)]])∧Yl w' (w.heap.size+3) rv (yB s l)∧Below w.heap.size w w':=by
 have hin:=h;obtain⟨cv,lv,tv,rfl,hc,hv,ht⟩:=h;obtain⟨a1,cap1,rfl,-,-,-⟩:=id hc;obtain⟨a2,cap2,rfl,-,-,-⟩:=id hv;obtain⟨a3,cap3,rfl,-,-,-⟩:=id ht;obtain⟨a4,cap4,rfl,-,-,-⟩:=id hl;have hb3:=Below.plus (Below.plus (bpl w (.cells #[.slice a1 s.clock.length cap1,.slice a2 s.lives.length cap2,.slice a3 s.tals.length cap3] 27)) (.cells #[.slice none 0 0,.slice none 0 0,.slice none 0 0] 27)) (.cells #[.int .i64 0,.int .i64 0] 65);have S0:=Za (hin.below hb3 (nlr _));have C0:=Za (hc.below hb3 (nlr _));have L0:=Za (hv.below hb3 (nlr _));have T0:=Za (ht.below hb3 (nlr _));have U0:=Za (hl.below hb3 (nlr _));have G0:=Za (((Box.new w [.slice a1 s.clock.length cap1,.slice a2 s.lives.length cap2,.slice a3 s.tals.length cap3] 27).plus (.cells #[.slice none 0 0,.slice none 0 0,.slice none 0 0] 27)).plus (.cells #[.int .i64 0,.int .i64 0] 65));have R0:=Za ((Box.new (w.alloc (.cells #[.slice a1 s.clock.length cap1,.slice a2 s.lives.length cap2,.slice a3 s.tals.length cap3] 27)) [.slice none 0 0,.slice none 0 0,.slice none 0 0] 27).plus (.cells #[.int .i64 0,.int .i64 0] 65));have Z0:=Za (Box.new ((w.alloc (.cells #[.slice a1 s.clock.length cap1,.slice a2 s.lives.length cap2,.slice a3 s.tals.length cap3] 27)).alloc (.cells #[.slice none 0 0,.slice none 0 0,.slice none 0 0] 27)) [.int .i64 0,.int .i64 0] 65);rw[World.size_alloc]at R0;rw[World.size_alloc,World.size_alloc]at Z0;have HB0:=Za hb3;clear hin hc hv ht hl hb3;obtain⟨E,HE⟩:∃E,Hid (Ol s l=E):=⟨_,rfl⟩;obtain⟨A,HA⟩:∃A,Hid (playA s l=A):=⟨_,rfl⟩;obtain⟨X,HX⟩:∃X,Hid (yB s l=X):=⟨_,rfl⟩;rw[HE.out,HA.out,HX.out];unfold yB at HX;rw[HE.out]at HX;unfold Ol at HE;unfold playA at HA;obtain⟨r,HR⟩:∃r,Hid (stE s s.clock.length=r):=⟨_,rfl⟩;obtain⟨q,HQ⟩:∃q,Hid (stA s s.clock.length=q):=⟨_,rfl⟩;rw[HR.out]at HE HA
 by_cases hr:r=0
 ·subst hr;obtain⟨ce,HCE⟩:∃ce,Hid (Xb s.clock l s.clock.length=ce):=⟨_,rfl⟩;obtain⟨ca,HCA⟩:∃ca,Hid (Vg s.clock l s.clock.length=ca):=⟨_,rfl⟩;obtain⟨cx,HCX⟩:∃cx,Hid (Vf s.clock l s.clock.length=cx):=⟨_,rfl⟩;obtain rfl:ce=E:=by rw[←HE.out,HCE.out];simp
  obtain rfl:ca=A:=by rw[←HA.out,HCA.out];simp
  clear HE HA
  by_cases hce:ce=0
  ·subst hce;rw[if_pos rfl]at HX;have hok:OkS s.clock.length s.clock s.lives s.tals:=Qw.1 HR.out;have HOK:=Za hok;have hwc:=hok.clock
   have herr:Hid (Xf s.clock.length s.clock l=0):=by
    have:=HCE.out;unfold Xb at this;rw[if_neg (by simpa using hwc)]at this
    split at this
    ·cases this
    exact this
   have hca:ca=0:=by
    rw[←HCA.out];unfold Vg;rw[if_neg (by simpa using hwc)]
    split
    ·rfl
    rw[if_pos herr.out]
   subst hca;have hcx:Hid (cx=Ys s.clock l):=by unfold Hid;rw[←HCX.out];unfold Vf;rw[if_pos HCE.out]
   have hfew:=hok.few;have hlen:=U0.len_le;obtain⟨iL,hiL,hzL0,hzL1,hzL2⟩:=info_parts Tryz.infoLive;obtain⟨iT,hiT,hzT0,hzT1,hzT2⟩:=info_parts Tryz.infoTally;clear hok hwc
   go_enter Tryz.func39,Tryz.ntmps39
   obtain⟨cG0,cG1,cG2⟩:=G0.c3
   go_wp2_with fail
   refine(Jx _ s s.clock.length _ S0.out).mono ?_;rintro e w1 ⟨rfl,hb⟩;have HB1:=Za (Zb HB0.out hb);have S1:=Za (S0.below hb (nlr _));have C1:=Za (C0.below hb (nlr _));have L1:=Za (L0.below hb (nlr _));have T1:=Za (T0.below hb (nlr _));have U1:=Za (U0.below hb (nlr _));have G1:=Za (G0.below hb (nlr _));have R1:=Za (R0.below hb (nlr _));have Z1:=Za (Z0.below hb (nlr _));clear HB0 hb S0 C0 L0 T0 U0 G0 R0 Z0;rw[HR.out,HQ.out];clear cG0 cG1 cG2;have HB2:=Za (Zb HB1.out (bpl w1 (.cells #[.int .i64 0,.int .i64 q] 65)));have S2:=Za (S1.below (bpl w1 (.cells #[.int .i64 0,.int .i64 q] 65)) (nlr _));have C2:=Za (C1.below (bpl w1 (.cells #[.int .i64 0,.int .i64 q] 65)) (nlr _));have L2:=Za (L1.below (bpl w1 (.cells #[.int .i64 0,.int .i64 q] 65)) (nlr _));have T2:=Za (T1.below (bpl w1 (.cells #[.int .i64 0,.int .i64 q] 65)) (nlr _));have U2:=Za (U1.below (bpl w1 (.cells #[.int .i64 0,.int .i64 q] 65)) (nlr _));have G2:=Za (G1.below (bpl w1 (.cells #[.int .i64 0,.int .i64 q] 65)) (nlr _));have R2:=Za (R1.below (bpl w1 (.cells #[.int .i64 0,.int .i64 q] 65)) (nlr _));have Z2:=Za (Z1.below (bpl w1 (.cells #[.int .i64 0,.int .i64 q] 65)) (nlr _));have V2:=Za (Box.new w1 [.int .i64 0,.int .i64 q] 65);clear HB1 S1 C1 L1 T1 U1 G1 R1 Z1;obtain⟨cV0,cV1⟩:=V2.c2;obtain⟨cG0,cG1,cG2⟩:=G2.c3;have hz2:=Z2.lt
   go_wp2_with fail
   refine(clock_ref _ _ s.clock l s.clock.length _ C2.out U2.out).mono ?_;rintro e w3 ⟨vQ,rfl,ho,hb⟩;have HB3:=Za (Zb HB2.out hb);have S3:=Za (S2.below hb (nlr _));have C3:=Za (C2.below hb (nlr _));have L3:=Za (L2.below hb (nlr _));have T3:=Za (T2.below hb (nlr _));have U3:=Za (U2.below hb (nlr _));have G3:=Za (G2.below hb (nlr _));have R3:=Za (R2.below hb (nlr _));have Z3:=Za (Z2.below hb (nlr _));have V3:=Za (V2.below hb (nlr _));have Q3:=Za ho;clear HB2 hb S2 C2 L2 T2 U2 G2 R2 Z2 V2;clear ho;rw[HCE.out,HCA.out];rw[HCX.out]at Q3;clear cG0 cG1 cG2;clear cV0 cV1;have hzl:=Z3.lt;have HB4:=Za (Zb HB3.out (bpl w3 (.cells #[.int .i64 0,.int .i64 0] 65)));have S4:=Za (S3.below (bpl w3 (.cells #[.int .i64 0,.int .i64 0] 65)) (nlr _));have C4:=Za (C3.below (bpl w3 (.cells #[.int .i64 0,.int .i64 0] 65)) (nlr _));have L4:=Za (L3.below (bpl w3 (.cells #[.int .i64 0,.int .i64 0] 65)) (nlr _));have T4:=Za (T3.below (bpl w3 (.cells #[.int .i64 0,.int .i64 0] 65)) (nlr _));have U4:=Za (U3.below (bpl w3 (.cells #[.int .i64 0,.int .i64 0] 65)) (nlr _));have G4:=Za (G3.below (bpl w3 (.cells #[.int .i64 0,.int .i64 0] 65)) (nlr _));have R4:=Za (R3.below (bpl w3 (.cells #[.int .i64 0,.int .i64 0] 65)) (nlr _));have Z4:=Za (Z3.below (bpl w3 (.cells #[.int .i64 0,.int .i64 0] 65)) (nlr _));have V4:=Za (V3.below (bpl w3 (.cells #[.int .i64 0,.int .i64 0] 65)) (nlr _));have Q4:=Za (Q3.below (bpl w3 (.cells #[.int .i64 0,.int .i64 0] 65)) (nlr _));have Y4:=Za (Box.new w3 [.int .i64 0,.int .i64 0] 65);clear HB3 S3 C3 L3 T3 U3 G3 R3 Z3 V3 Q3;obtain⟨cY0,cY1⟩:=Y4.c2;obtain⟨cG0,cG1,cG2⟩:=G4.c3;replace Q4:=Za (Own.mono (C:=w.heap.size+3) Q4.out (by omega));clear V4 C4 hz2;obtain⟨WB,HWB⟩:∃WB,Hid (w3.alloc (.cells #[.int .i64 0,.int .i64 0] 65)=WB):=⟨_,rfl⟩;have hszB:Hid (w.heap.size+2<WB.heap.size):=by unfold Hid;rw[←HWB.out,World.size_alloc];omega
   rw[HWB.out]at HB4 S4 L4 T4 U4 R4 Z4 Q4 cG0 cG1 cG2 Y4 cY0 cY1;have hcl:Hid (s.clock.length*8≤140737488351232):=by have:=Zm.1 HOK.clock;unfold Hid;omega
   have hQf:∃aQ cQ,vQ=.slice aQ cx.length cQ:=by obtain⟨aQ,cQ,h,-⟩:=Q4.row;exact⟨aQ,cQ,h⟩
   obtain⟨aQ,cQ,rfl⟩:=hQf;rw[HWB.out]at G4;have HKD:Hid (∀u ∈ l,1≤u.kind∧u.kind≤5):=fun u hu=>wrongU_kind (errL_each l herr.out u hu);have HL300:Hid (l.length≤300):=clock_few HOK.clock HCE.out;have hbp:=bpl WB (.cells #[.slice aQ cx.length cQ,.slice none 0 0,.slice none 0 0] 27);have P5:PI WB (WB.alloc (.cells #[.slice aQ cx.length cQ,.slice none 0 0,.slice none 0 0] 27)) WB.heap.size (w.heap.size+3) WB.heap.size (.slice aQ cx.length cQ) (.slice none 0 0) (.slice none 0 0) cx [] []:=⟨Box.new WB [.slice aQ cx.length cQ,.slice none 0 0,.slice none 0 0] 27,Q4.below hbp (nlr _),Xm.nil _ _,Xm.nil _ _,hbp,nlr _⟩;obtain⟨go,HGO⟩:∃go,Hid (WB.heap.size=go):=⟨_,rfl⟩;obtain⟨w5,HW5⟩:∃W,Hid (WB.alloc (.cells #[.slice aQ cx.length cQ,.slice none 0 0,.slice none 0 0] 27)=W):=⟨_,rfl⟩;rw[HW5.out]at P5;have HP5:Hid (PI WB w5 WB.heap.size (w.heap.size+3) go (.slice aQ cx.length cQ) (.slice none 0 0) (.slice none 0 0) cx [] []):=by unfold Hid;rw[←HGO.out];exact P5
   clear hbp P5 cG0 cG1 cG2 cY0 cY1;have g1:=(G4.below HP5.bl (nlr _)).get 1 rfl
   go_upto_region 8 with fail
   rw[HWB.out]
   go_upto_region 9 with fail
   rw[HW5.out,HGO.out]
   go_wp2_with fail
   clear g1
   go_loopw [55] (fun i wr=>∃(j:Nat) (lv:Value),j≤s.lives.length∧i=.int .i64 j∧Hid (PI WB wr WB.heap.size (w.heap.size+3) go (.slice aQ cx.length cQ) lv (.slice none 0 0) cx (Jv l (s.lives.take j)) [])) (fun i _=>s.lives.length - (intOf i).toNat)
   case atStart=>exact⟨0,_,Nat.zero_le _,rfl,HP5⟩
   obtain⟨j,lv,hj,rfl,P6⟩:=hrel;obtain⟨w6,rfl⟩:∃w6,w6=wr:=⟨wr,rfl⟩;clear HP5
   by_cases hlt:j<s.lives.length
   ·have hlt':(j:Int)<(s.lives.length:Int):=by omega
    obtain⟨x,HX6⟩:∃x,Hid (s.lives[j]? =some x):=⟨_,List.getElem?_eq_getElem hlt⟩;have HLO:=Za (HOK.lives x (List.mem_of_getElem? HX6.out));obtain⟨xs,xk,xi,xu,xq⟩:=x;obtain⟨au,hau⟩:∃au:Nat,xu=au:=⟨xu.toNat,by have:=HLO.1;simp only at this;omega⟩;subst hau;have HSN:=Za (keptA_snoc (l:=l) HX6.out);obtain⟨LL,HLL⟩:∃LL,Hid (Jv l (s.lives.take j)=LL):=⟨_,rfl⟩;have HLN:Hid (LL.length≤500000000):=by unfold Hid;rw[←HLL.out];have:=(keptA_all (l:=l) HOK.order j hj).2.2;omega
    rw[HLL.out]at HSN P6;obtain⟨eb,eo,hea,d0,d1,d2,d3,d4⟩:=Va (L4.below P6.bl (nlr _)) HX6.out;subst hea;have hbp:=bpl w6 (.cells #[.bool xs,.int .i64 xk,.int .i64 xi,.int .i64 (au:Int),.int .i64 xq] 106);have X7:=Za (Box.new w6 [.bool xs,.int .i64 xk,.int .i64 xi,.int .i64 (au:Int),.int .i64 xq] 106);have P7:=Za (P6.below hbp);obtain⟨gx,HGX⟩:∃gx,Hid (w6.heap.size=gx):=⟨_,rfl⟩;obtain⟨w7,HW7⟩:∃W,Hid (w6.alloc (.cells #[.bool xs,.int .i64 xk,.int .i64 xi,.int .i64 (au:Int),.int .i64 xq] 106)=W):=⟨_,rfl⟩;rw[HW7.out]at X7 P7;rw[HGX.out]at X7;clear hbp P6
    go_upto_region 13 with fail
    rw[HW7.out,HGX.out];clear d0 d1 d2 d3 d4;obtain⟨x0,x1,x2,x3,x4⟩:=X7.c5
    go_wp2_with fail
    refine(yV xs xk xi xq au _ l _ (U4.below P7.bl (nlr _)) HKD.out).mono ?_;rintro e w8 ⟨rfl,hb8⟩;have P8:=Za (P7.below hb8);have X8:=Za (X7.below hb8 (nlr _));clear x0 x1 x2 x3 x4 hb8 P7 X7;obtain⟨c,HC⟩:∃c,Hid (Ut l ⟨xs,xk,xi,au,xq⟩=c):=⟨_,rfl⟩;rw[show(l.all fun u=> !Yy u ⟨xs,xk,xi,au,xq⟩)=c from HC.out];have HST:Hid (Jv l (s.lives.take (j+1))=if c=true then Js ⟨xs,xk,xi,au,xq⟩ LL else LL):=by unfold Hid;rw[HSN.out];unfold keepA;rw[HC.out]
    cases c with
    |false=>
     rw[if_neg (by simp)]at HST
     go_wp2_with fail
     go_roundw
     case rel=>exact⟨j+1,lv,by omega,by go_num,by rw[HST.out];exact P8⟩
     case measure=>simp[intOf];omega
    |true=>
     rw[if_pos rfl]at HST;have b1:=P8.box.get 1 rfl;obtain⟨x0,x1,x2,x3,x4⟩:=X8.c5
     go_wp2_with fail
     refine(put_ref _ LL ⟨xs,xk,xi,au,xq⟩ _ (Zl Ze P8.lv) (Nat.le_trans HLN.out (by decide))).mono ?_;rintro e w9 ⟨pv,rfl,hP,hb9⟩;obtain⟨NL,HNL⟩:∃NL,Hid (Js ⟨xs,xk,xi,au,xq⟩ LL=NL):=⟨_,rfl⟩;rw[HNL.out]at hP HST;obtain⟨pa,pcap,hpv,-⟩:=Zl Ze hP;subst hpv;have J9:=P8.below hb9;have R9:Xm 106 5 Zv w9 WB.heap.size (.slice pa NL.length pcap) NL:=Zw hP P8.bl.size;have P10:=Za (J9.setL R9);have b1':=J9.box.get 1 rfl;have f1':=J9.box.free 1;clear b1 x0 x1 x2 x3 x4 hP hb9 P8 X8 R9 J9
     go_wp2_with fail
     go_roundw
     case rel=>exact⟨j+1,_,by omega,by go_num,by rw[HST.out];exact P10⟩
     case measure=>simp[intOf];omega
   have hlt':¬(j:Int)<(s.lives.length:Int):=by omega
   have hjl:s.lives.take j=s.lives:=List.take_of_length_le (by omega);rw[hjl]at P6;clear hjl;have hlen3:l.length≤300:=HL300.out
   go_wp2_with fail
   clear hlen3
   go_loopw [71] (fun i wr=>∃(k:Nat) (lv:Value),k≤l.length∧i=.int .i64 k∧Hid (PI WB wr WB.heap.size (w.heap.size+3) go (.slice aQ cx.length cQ) lv (.slice none 0 0) cx (Oo l (Jv l s.lives) k) [])) (fun i _=>l.length - (intOf i).toNat)
   case atStart=>exact⟨0,lv,Nat.zero_le _,rfl,P6⟩
   obtain⟨k,lv,hk,rfl,Q6⟩:=hrel;obtain⟨w6,rfl⟩:∃w6,w6=wr:=⟨wr,rfl⟩;clear P6 hj hlt hlt'
   by_cases hlt:k<l.length
   ·have hlt':(k:Int)<(l.length:Int):=by omega
    have hk1:k+1≤l.length:=by omega
    obtain⟨u,HU⟩:∃u,Hid (l[k]? =some u):=⟨_,List.getElem?_eq_getElem hlt⟩;have HWU:=Za (errL_each l herr.out u (List.mem_of_getElem? HU.out));have HSN:=Za (keptB_snoc (out:=Jv l s.lives) HU.out);obtain⟨ub,uo,a5,cap5,hba,d0,d1,d2,d3,d4,hsv,-⟩:=(U4.below Q6.bl (nlr _)).at HU.out;subst hba;obtain⟨ua,us,uk,uy,ui⟩:=u;obtain⟨au,hau⟩:∃au:Nat,ua=au:=⟨ua.toNat,by have:=(zB HWU.out).2.1;simp only at this;omega⟩;subst hau;have HAU:Hid (au<us.length):=by have h1:=(zB HWU.out).2.2;have h2:=(Yq (zB HWU.out).1).2.2.1;simp only at h1 h2;unfold Hid;omega
    obtain⟨ya,HYA⟩:∃y,Hid (us.getD au 0=y):=⟨_,rfl⟩;have HYR:Hid (0≤ya∧ya≤1000):=by have h2:=(Yq (zB HWU.out).1).2.2.2 au HAU.out;rw[←HYA.out];exact h2
    obtain⟨sb,so,hsb,ck⟩:=rowAtP hsv HAU.out;rw[HYA.out]at ck;subst hsb;obtain⟨LL,HLL⟩:∃LL,Hid (Oo l (Jv l s.lives) k=LL):=⟨_,rfl⟩;have HLN:Hid (LL.length≤500000000):=by unfold Hid;rw[←HLL.out];have:=(keptB_all HOK.clock herr.out HOK.bound HOK.order k hk).2.2;have:=HL300.out;have:=HOK.few.1;omega
    rw[HLL.out]at HSN Q6;obtain⟨k3,HK3⟩:∃k3,Hid (decide (uk=3)=k3):=⟨_,rfl⟩
    have HST0:Hid (Oo l (Jv l s.lives) (k+1)=if(uk=1∨uk=3)∧Ut (l.drop (k+1)) ⟨k3,uy,ui,au,ya+1⟩=true then Js ⟨k3,uy,ui,au,ya+1⟩ LL else LL):=by
     unfold Hid;rw[HSN.out];have e:liveU ⟨au,us,uk,uy,ui⟩=⟨k3,uy,ui,au,ya+1⟩:=by unfold liveU Uc;simp only[Int.toNat_natCast,HYA.out,HK3.out]
     unfold keepB;rw[e]
    clear HSN;have hbp:=bpl w6 (.cells #[.int .i64 (au:Int),.slice (some ⟨sb,so,none⟩) us.length cap5,.int .i64 uk,.int .i64 uy,.int .i64 ui] 33);have B7:=Za (Box.new w6 [.int .i64 (au:Int),.slice (some ⟨sb,so,none⟩) us.length cap5,.int .i64 uk,.int .i64 uy,.int .i64 ui] 33);have P7:=Za (Q6.below hbp);have ck7:=vA hbp ck;obtain⟨gu,HGU⟩:∃gu,Hid (w6.heap.size=gu):=⟨_,rfl⟩;obtain⟨w7,HW7⟩:∃W,Hid (w6.alloc (.cells #[.int .i64 (au:Int),.slice (some ⟨sb,so,none⟩) us.length cap5,.int .i64 uk,.int .i64 uy,.int .i64 ui] 33)=W):=⟨_,rfl⟩;rw[HW7.out]at B7 P7 ck7;rw[HGU.out]at B7;clear hbp hsv ck Q6
    go_upto_region 19 with fail
    rw[HW7.out,HGU.out];clear d0 d1 d2 d3 d4;have HK19:=Za fun w' (hg:Zh w7 w')=>And.intro (B7.below hg (nlr _)).c5 (vA hg ck7);clear ck7;have hau':(au:Int)<(us.length:Int):=by have:=HAU.out;omega
    have hau0:¬(au:Int)<0:=by omega
    have hwr:IntKind.i64.wrap (ya+1)=ya+1:=wrapL (by have:=HYR.out;omega) (by have:=HYR.out;omega)
    have hk3':(uk==3)=k3:=by rw[←HK3.out];by_cases h:uk=3 <;> simp[h]
    go_cut [16] (fun p wx=>∃gx,p=.pointer (some ⟨gx,0,none⟩)∧Hid (Box wx gx [.bool k3,.int .i64 uy,.int .i64 ui,.int .i64 (au:Int),.int .i64 (ya+1)] 106)∧Hid (w7.heap.size≤gx)∧Hid (Zh w7 wx))
    case first=>
     refine rgn HK19.out fun wd hgd hHeld=>?_;refine ty 0 (.pointer (some ⟨gu,2,none⟩)) ?_;refine ty 1 (.int .i64 uk) ?_;refine ty 2 (.bool k3) ?_;refine ty 3 (.pointer (some ⟨gu,3,none⟩)) ?_;refine ty 4 (.int .i64 uy) ?_;refine ty 5 (.pointer (some ⟨gu,4,none⟩)) ?_;refine ty 6 (.int .i64 ui) ?_;refine ty 7 (.pointer (some ⟨gu,0,none⟩)) ?_;refine ty 8 (.int .i64 (au:Int)) ?_;refine ty 9 (.pointer (some ⟨gu,1,none⟩)) ?_;refine ty 10 (.slice (some ⟨sb,so,none⟩) us.length cap5) ?_;refine ty 11 (.pointer (some ⟨gu,0,none⟩)) ?_;refine ty 12 (.int .i64 (au:Int)) ?_;refine ty 13 (.pointer (some ⟨sb,so+au,none⟩)) ?_;refine ty 14 (.int .i64 ya) ?_;refine ty 15 (.int .i64 (ya+1)) ?_;refine ty 16 (.agg #[.bool k3,.int .i64 uy,.int .i64 ui,.int .i64 (au:Int),.int .i64 (ya+1)]) ?_;refine wr 17 fun K hK=>?_;go_simp;have hb_17:=bpl wd (.cells #[.bool false,.int .i64 0,.int .i64 0,.int .i64 0,.int .i64 0] 106);have X_17:=Box.new wd [.bool false,.int .i64 0,.int .i64 0,.int .i64 0,.int .i64 0] 106;have ge_g_17:w7.heap.size≤wd.heap.size:=hgd.size;obtain⟨w_17,Hw_17⟩:∃W,Hid (wd.alloc (.cells #[.bool false,.int .i64 0,.int .i64 0,.int .i64 0,.int .i64 0] 106)=W):=⟨_,rfl⟩;rw[Hw_17.out]at hb_17 X_17 ⊢;obtain⟨g_17,Hg_17⟩:∃g,Hid (wd.heap.size=g):=⟨_,rfl⟩;rw[Hg_17.out]at X_17 ge_g_17 ⊢;have hg_17:Zh w7 w_17:=Zd hgd hb_17;refine hK.out _ _ (HK19.out _ hg_17) (fun _=>?_);clear hK K
     try simp only[Act.put,Zt,Zs,Zr]
     refine wr 18 fun K hK=>?_;have c0:=X_17.get 0 rfl;have n0:=X_17.free 0;have c1:=X_17.get 1 rfl;have n1:=X_17.free 1;have c2:=X_17.get 2 rfl;have n2:=X_17.free 2;have c3:=X_17.get 3 rfl;have n3:=X_17.free 3;have c4:=X_17.get 4 rfl;have n4:=X_17.free 4;go_simp;have X_a:=(((((X_17.set 0 (.bool k3)).set 1 (.int .i64 uy)).set 2 (.int .i64 ui)).set 3 (.int .i64 (au:Int))).set 4 (.int .i64 (ya+1)));simp only[Zs,Zr]at X_a;have gg_a:Zh w7 _:=(Below.setCell (Below.setCell (Below.setCell (Below.setCell (Below.setCell hg_17 (p:=⟨g_17,0,none⟩) ge_g_17 (.bool k3)) (p:=⟨g_17,1,none⟩) ge_g_17 (.int .i64 uy)) (p:=⟨g_17,2,none⟩) ge_g_17 (.int .i64 ui)) (p:=⟨g_17,3,none⟩) ge_g_17 (.int .i64 (au:Int))) (p:=⟨g_17,4,none⟩) ge_g_17 (.int .i64 (ya+1)));obtain⟨w_a,Hw_a⟩:∃W,Hid ((((((w_17.setCell ⟨g_17,0,none⟩ (.bool k3)).setCell ⟨g_17,1,none⟩ (.int .i64 uy)).setCell ⟨g_17,2,none⟩ (.int .i64 ui)).setCell ⟨g_17,3,none⟩ (.int .i64 (au:Int))).setCell ⟨g_17,4,none⟩ (.int .i64 (ya+1)))=W):=⟨_,rfl⟩;rw[Hw_a.out]at X_a gg_a ⊢;clear c0 c1 c2 c3 c4 n0 n1 n2 n3 n4;have hg_a:Zh w7 w_a:=gg_a;refine hK.out _ _ (HK19.out _ hg_a) (fun _=>?_);clear hK K
     try simp only[Act.put,Zt,Zs,Zr]
     refine wpAnyH_done (by kernel_rfl) ?_ _
     go_wp2_with fail
     go_meet
     exact⟨_,rfl,X_a,ge_g_17,hg_a⟩
    obtain⟨gx,rfl,X8,HGX,HGR⟩:=hcut;obtain⟨w8,rfl⟩:∃w8,w8=wc:=⟨wc,rfl⟩;have P8:=Za (P7.below HGR.out);have B8:=Za (B7.below HGR.out (nlr _));have U8:=Za (U4.below P8.bl (nlr _));clear P7 B7 HGR HK19 hau' hau0 hwr hk3';obtain⟨c,HC⟩:∃c,Hid (Ut (l.drop (k+1)) ⟨k3,uy,ui,au,ya+1⟩=c):=⟨_,rfl⟩;rw[HC.out]at HST0;have hwk:IntKind.i64.wrap ((k:Int)+1)=((k+1:Nat):Int):=by have:=HL300.out;rw[wrapL (by omega) (by omega)];omega
    have hs0:(0:Int)≤(k:Int)+1:=by omega
    have hs1:(k:Int)+1≤(l.length:Int):=by omega
    have hcap4:l.length≤cap4:=by obtain⟨_,_,hv,h,-⟩:=U8.out;cases hv;exact h
    have HK20:=Za fun w' (hg:Zh w8 w')=>And.intro ((B8.below hg (nlr _)).get 2 rfl) (X8.below hg (nlr _)).c5
    go_upto_region 20 with fail
    go_cut [109] (fun q wx=>q=.bool (decide (uk=1∨uk=3)&&c)∧Hid (Zh w8 wx))
    case first=>
     by_cases h1:uk=1
     ·have hk1b:(decide (uk=1∨uk=3)&&c)=c:=by simp[h1]
      have q1:(uk==1)=true:=by simp[h1]
      clear h1
      by_cases hcm:cap4=k+1
      ·subst hcm;have U8D:=Za (Vh.dropB U8.out);refine rgn HK20.out fun wd hgd hHeld=>?_;refine ty 0 (.pointer (some ⟨gu,2,none⟩)) ?_;refine ty 1 (.int .i64 uk) ?_;refine ty 2 (.bool true) ?_;refine ty 3 (.bool true) ?_;refine ts 4 ?_;refine ts 5 ?_;refine ts 6 ?_;refine ty 7 (.bool true) ?_;refine ty 8 (.bool true) ?_;refine ty 9 (.func (.func 83) #[] #[]) ?_;refine ty 10 (.agg #[.bool k3,.int .i64 uy,.int .i64 ui,.int .i64 (au:Int),.int .i64 (ya+1)]) ?_;refine ty 11 (.slice (some ⟨ub,uo,none⟩) l.length (k+1)) ?_;refine ty 12 (.int .i64 (k:Int)) ?_;refine ty 13 (.int .i64 ((k+1:Nat):Int)) ?_;refine ty 14 (.slice (some ⟨ub,uo,none⟩) 0 0) ?_;refine wr 15 fun K hK=>?_;go_simp;refine(yV k3 uy ui (ya+1) au _ (l.drop (k+1)) _ (U8D.below hgd (nlr _)) (fun u hu=>HKD.out u (List.mem_of_mem_drop hu))).mono ?_;rintro e w_15 ⟨rfl,hb_15⟩;rw[show((l.drop (k+1)).all fun u=> !Yy u ⟨k3,uy,ui,au,ya+1⟩)=c from HC.out];have hg_15:Zh w8 w_15:=Zd hgd hb_15;refine hK.out _ _ (HK20.out _ hg_15) (fun _=>?_);clear hK K
       try simp only[Act.put,Zt,Zs,Zr]
       refine ty 16 (.bool c) ?_;refine wpAnyH_done (by kernel_rfl) ?_ _
       go_wp2_with fail
       go_meet
       exact⟨by rw[hk1b],hg_15⟩
      have hcm':¬k+1=cap4:=fun e=>hcm e.symm;have U8D:=Za (show Vh w8 (.slice (some ⟨ub,uo+(k+1)*5,none⟩) (l.length - (k+1)) (cap4 - (k+1))) (l.drop (k+1)) from by have h:=Vh.dropA U8.out hk1;simpa[addr_addL]using h);refine rgn HK20.out fun wd hgd hHeld=>?_;refine ty 0 (.pointer (some ⟨gu,2,none⟩)) ?_;refine ty 1 (.int .i64 uk) ?_;refine ty 2 (.bool true) ?_;refine ty 3 (.bool true) ?_;refine ts 4 ?_;refine ts 5 ?_;refine ts 6 ?_;refine ty 7 (.bool true) ?_;refine ty 8 (.bool true) ?_;refine ty 9 (.func (.func 83) #[] #[]) ?_;refine ty 10 (.agg #[.bool k3,.int .i64 uy,.int .i64 ui,.int .i64 (au:Int),.int .i64 (ya+1)]) ?_;refine ty 11 (.slice (some ⟨ub,uo,none⟩) l.length cap4) ?_;refine ty 12 (.int .i64 (k:Int)) ?_;refine ty 13 (.int .i64 ((k+1:Nat):Int)) ?_;refine ty 14 (.slice (some ⟨ub,uo+(k+1)*5,none⟩) (l.length - (k+1)) (cap4 - (k+1))) ?_;refine wr 15 fun K hK=>?_;go_simp;refine(yV k3 uy ui (ya+1) au _ (l.drop (k+1)) _ (U8D.below hgd (nlr _)) (fun u hu=>HKD.out u (List.mem_of_mem_drop hu))).mono ?_;rintro e w_15 ⟨rfl,hb_15⟩;rw[show((l.drop (k+1)).all fun u=> !Yy u ⟨k3,uy,ui,au,ya+1⟩)=c from HC.out];have hg_15:Zh w8 w_15:=Zd hgd hb_15;refine hK.out _ _ (HK20.out _ hg_15) (fun _=>?_);clear hK K
      try simp only[Act.put,Zt,Zs,Zr]
      refine ty 16 (.bool c) ?_;refine wpAnyH_done (by kernel_rfl) ?_ _
      go_wp2_with fail
      go_meet
      exact⟨by rw[hk1b],hg_15⟩
     have q1:(uk==1)=false:=by simp[h1]
     by_cases h3:uk=3
     ·have hk3b:(decide (uk=1∨uk=3)&&c)=c:=by simp[h3]
      have q3:(uk==3)=true:=by simp[h3]
      clear h1 h3
      by_cases hcm:cap4=k+1
      ·subst hcm;have U8D:=Za (Vh.dropB U8.out);refine rgn HK20.out fun wd hgd hHeld=>?_;refine ty 0 (.pointer (some ⟨gu,2,none⟩)) ?_;refine ty 1 (.int .i64 uk) ?_;refine ty 2 (.bool false) ?_;refine ty 3 (.bool false) ?_;refine ty 4 (.pointer (some ⟨gu,2,none⟩)) ?_;refine ty 5 (.int .i64 uk) ?_;refine ty 6 (.bool true) ?_;refine ty 7 (.bool true) ?_;refine ty 8 (.bool true) ?_;refine ty 9 (.func (.func 83) #[] #[]) ?_;refine ty 10 (.agg #[.bool k3,.int .i64 uy,.int .i64 ui,.int .i64 (au:Int),.int .i64 (ya+1)]) ?_;refine ty 11 (.slice (some ⟨ub,uo,none⟩) l.length (k+1)) ?_;refine ty 12 (.int .i64 (k:Int)) ?_;refine ty 13 (.int .i64 ((k+1:Nat):Int)) ?_;refine ty 14 (.slice (some ⟨ub,uo,none⟩) 0 0) ?_;refine wr 15 fun K hK=>?_;go_simp;refine(yV k3 uy ui (ya+1) au _ (l.drop (k+1)) _ (U8D.below hgd (nlr _)) (fun u hu=>HKD.out u (List.mem_of_mem_drop hu))).mono ?_;rintro e w_15 ⟨rfl,hb_15⟩;rw[show((l.drop (k+1)).all fun u=> !Yy u ⟨k3,uy,ui,au,ya+1⟩)=c from HC.out];have hg_15:Zh w8 w_15:=Zd hgd hb_15;refine hK.out _ _ (HK20.out _ hg_15) (fun _=>?_);clear hK K
       try simp only[Act.put,Zt,Zs,Zr]
       refine ty 16 (.bool c) ?_;refine wpAnyH_done (by kernel_rfl) ?_ _
       go_wp2_with fail
       go_meet
       exact⟨by rw[hk3b],hg_15⟩
      have hcm':¬k+1=cap4:=fun e=>hcm e.symm;have U8D:=Za (show Vh w8 (.slice (some ⟨ub,uo+(k+1)*5,none⟩) (l.length - (k+1)) (cap4 - (k+1))) (l.drop (k+1)) from by have h:=Vh.dropA U8.out hk1;simpa[addr_addL]using h);refine rgn HK20.out fun wd hgd hHeld=>?_;refine ty 0 (.pointer (some ⟨gu,2,none⟩)) ?_;refine ty 1 (.int .i64 uk) ?_;refine ty 2 (.bool false) ?_;refine ty 3 (.bool false) ?_;refine ty 4 (.pointer (some ⟨gu,2,none⟩)) ?_;refine ty 5 (.int .i64 uk) ?_;refine ty 6 (.bool true) ?_;refine ty 7 (.bool true) ?_;refine ty 8 (.bool true) ?_;refine ty 9 (.func (.func 83) #[] #[]) ?_;refine ty 10 (.agg #[.bool k3,.int .i64 uy,.int .i64 ui,.int .i64 (au:Int),.int .i64 (ya+1)]) ?_;refine ty 11 (.slice (some ⟨ub,uo,none⟩) l.length cap4) ?_;refine ty 12 (.int .i64 (k:Int)) ?_;refine ty 13 (.int .i64 ((k+1:Nat):Int)) ?_;refine ty 14 (.slice (some ⟨ub,uo+(k+1)*5,none⟩) (l.length - (k+1)) (cap4 - (k+1))) ?_;refine wr 15 fun K hK=>?_;go_simp;refine(yV k3 uy ui (ya+1) au _ (l.drop (k+1)) _ (U8D.below hgd (nlr _)) (fun u hu=>HKD.out u (List.mem_of_mem_drop hu))).mono ?_;rintro e w_15 ⟨rfl,hb_15⟩;rw[show((l.drop (k+1)).all fun u=> !Yy u ⟨k3,uy,ui,au,ya+1⟩)=c from HC.out];have hg_15:Zh w8 w_15:=Zd hgd hb_15;refine hK.out _ _ (HK20.out _ hg_15) (fun _=>?_);clear hK K
      try simp only[Act.put,Zt,Zs,Zr]
      refine ty 16 (.bool c) ?_;refine wpAnyH_done (by kernel_rfl) ?_ _
      go_wp2_with fail
      go_meet
      exact⟨by rw[hk3b],hg_15⟩
     have hk0b:(decide (uk=1∨uk=3)&&c)=false:=by simp[h1,h3]
     have q3:(uk==3)=false:=by simp[h3]
     clear h1 h3;refine rgn HK20.out fun wd hgd hHeld=>?_;refine ty 0 (.pointer (some ⟨gu,2,none⟩)) ?_;refine ty 1 (.int .i64 uk) ?_;refine ty 2 (.bool false) ?_;refine ty 3 (.bool false) ?_;refine ty 4 (.pointer (some ⟨gu,2,none⟩)) ?_;refine ty 5 (.int .i64 uk) ?_;refine ty 6 (.bool false) ?_;refine ty 7 (.bool false) ?_;refine ty 8 (.bool false) ?_;refine ts 9 ?_;refine ts 10 ?_;refine ts 11 ?_;refine ts 12 ?_;refine ts 13 ?_;refine ts 14 ?_;refine ts 15 ?_;refine ty 16 (.bool false) ?_;refine wpAnyH_done (by kernel_rfl) ?_ _
     go_wp2_with fail
     go_meet
     exact⟨by rw[hk0b],hgd⟩
    obtain⟨rfl,HGR⟩:=hcut;obtain⟨w9,rfl⟩:∃w9,w9=wc:=⟨wc,rfl⟩;have P9:=Za (P8.below HGR.out);have X9:=Za (X8.below HGR.out (nlr _));clear P8 X8 B8 U8 HGR HK20 hcap4
    have HST:Hid (Oo l (Jv l s.lives) (k+1)=if(decide (uk=1∨uk=3)&&c)=true then Js ⟨k3,uy,ui,au,ya+1⟩ LL else LL):=by
     unfold Hid;rw[HST0.out];simp only[Bool.and_eq_true,decide_eq_true_eq]
    clear HST0;obtain⟨d,HD⟩:∃d,Hid ((decide (uk=1∨uk=3)&&c)=d):=⟨_,rfl⟩;rw[HD.out]at HST ⊢
    cases d with
    |false=>
     rw[if_neg (by simp)]at HST
     go_wp2_with fail
     go_roundw
     case rel=>exact⟨k+1,lv,by omega,by go_num,by rw[HST.out];exact P9⟩
     case measure=>simp[intOf];omega
    |true=>
     rw[if_pos rfl]at HST;have b1:=P9.box.get 1 rfl;obtain⟨x0,x1,x2,x3,x4⟩:=X9.c5
     go_wp2_with fail
     refine(put_ref _ LL ⟨k3,uy,ui,au,ya+1⟩ _ (Zl Ze P9.lv) (Nat.le_trans HLN.out (by decide))).mono ?_;rintro e w11 ⟨pv,rfl,hP,hb11⟩;obtain⟨NL,HNL⟩:∃NL,Hid (Js ⟨k3,uy,ui,au,ya+1⟩ LL=NL):=⟨_,rfl⟩;rw[HNL.out]at hP HST;obtain⟨pa,pcap,hpv,-⟩:=Zl Ze hP;subst hpv;have J9:=P9.below hb11;have R9:Xm 106 5 Zv w11 WB.heap.size (.slice pa NL.length pcap) NL:=Zw hP P9.bl.size;have P10:=Za (J9.setL R9);have b1':=J9.box.get 1 rfl;have f1':=J9.box.free 1;clear b1 x0 x1 x2 x3 x4 hP hb11 P9 X9 R9 J9
     go_wp2_with fail
     go_roundw
     case rel=>exact⟨k+1,_,by omega,by go_num,by rw[HST.out];exact P10⟩
     case measure=>simp[intOf];omega
   have hlt':¬(k:Int)<(l.length:Int):=by omega
   obtain rfl:k=l.length:=by omega
   obtain⟨LF,HLF⟩:∃LF,Hid (Oo l (Jv l s.lives) l.length=LF):=⟨_,rfl⟩;rw[HLF.out]at Q6;have hnc:s.clock.length≤6:=by have:=Zm.1 HOK.clock;omega
   have HNC:=Za hnc;have HTB:Hid (∀t ∈ s.tals,-1000000≤t.sum∧t.sum≤1000000):=fun t ht=>talOk_sum HOK.clock (HOK.tals t ht);have HIB:Hid (∀u ∈ l,-1000≤u.item∧u.item≤1000):=fun u hu=>wrongU_item (errL_each l herr.out u hu)
   go_wp2_with fail
   go_loopw [17] (fun i wr=>∃(key:Nat) (tv:Value),key≤16∧i=.int .i64 key∧Hid (PI WB wr WB.heap.size (w.heap.size+3) go (.slice aQ cx.length cQ) lv tv cx LF (tlsK s.tals l s.clock.length key))) (fun i _=>16 - (intOf i).toNat)
   case atStart=>exact⟨0,_,Nat.zero_le _,rfl,Q6⟩
   obtain⟨key,tv,hkey,rfl,J1⟩:=hrel;obtain⟨w10,rfl⟩:∃w10,w10=wr:=⟨wr,rfl⟩;clear Q6
   by_cases hk16:key<16
   ·have hk16':(key:Int)≤15:=by omega
    go_wp2_with fail
    go_loopw [18] (fun i wr=>∃(u:Nat) (tv:Value),u≤s.clock.length∧i=.int .i64 u∧Hid (PI WB wr WB.heap.size (w.heap.size+3) go (.slice aQ cx.length cQ) lv tv cx LF ((tlsK s.tals l s.clock.length key)++tlsI s.tals l key u))) (fun i _=>s.clock.length - (intOf i).toNat)
    case atStart=>exact⟨0,tv,Nat.zero_le _,rfl,Za (by simpa[tlsI]using J1.out)⟩
    obtain⟨u,tv,hu,rfl,J2⟩:=hrel;obtain⟨w11,rfl⟩:∃w11,w11=wr:=⟨wr,rfl⟩;clear J1
    by_cases hut:u<s.clock.length
    ·have hut':(u:Int)<(s.clock.length:Int):=by omega
     obtain⟨TB,HTBB⟩:∃TB,Hid ((tlsK s.tals l s.clock.length key)++tlsI s.tals l key u=TB):=⟨_,rfl⟩
     have HTBL:Hid (TB.length≤20000):=by
      unfold Hid;rw[←HTBB.out,List.length_append];have h1:=tlsK_len (ts:=s.tals) (l:=l) (n:=s.clock.length) key;have h2:=tlsI_len (ts:=s.tals) (l:=l) (key:=key) u;have h3:key*s.clock.length≤16*6:=Nat.mul_le_mul (by omega) HNC.out;have:=HNC.out;omega
     rw[HTBB.out]at J2;have htl:s.tals.length≤100:=hfew.2;have g2:=(G4.below J2.bl (nlr _)).get 2 rfl
     go_wp2_with fail
     clear g2 htl
     go_loopw [19,128] (fun z i wr=>∃j:Nat,j≤s.tals.length∧z=.int .i64 (Ot (s.tals.take j) key u)∧i=.int .i64 j∧Hid (PI WB wr WB.heap.size (w.heap.size+3) go (.slice aQ cx.length cQ) lv tv cx LF TB)) (fun _ i _=>s.tals.length - (intOf i).toNat)
     case atStart=>exact⟨0,Nat.zero_le _,by simp[Ot],rfl,J2⟩
     obtain⟨j,hj,rfl,rfl,J3⟩:=hrel;obtain⟨w12,rfl⟩:∃w12,w12=wr:=⟨wr,rfl⟩;clear J2
     by_cases hlt:j<s.tals.length
     ·have hlt':(j:Int)<(s.tals.length:Int):=by omega
      obtain⟨t,HT⟩:∃t,Hid (s.tals[j]? =some t):=⟨_,List.getElem?_eq_getElem hlt⟩;have HSS:=Za (sumA_take (k:=key) (a:=u) HT.out);have HSN:=Za (sumA_bound (k:=key) (a:=u) HTB.out (j+1));obtain⟨tk,ta,ts⟩:=t;obtain⟨sm,HSM⟩:∃sm,Hid (Ot (s.tals.take j) key u=sm):=⟨_,rfl⟩;rw[HSM.out]at HSS ⊢;obtain⟨tb,to',hta,d0,d1,d2⟩:=Jy (T4.below J3.bl (nlr _)) HT.out;subst hta;have hbp:=bpl w12 (.cells #[.int .i64 tk,.int .i64 ta,.int .i64 ts] 108);have X4:=Za (Box.new w12 [.int .i64 tk,.int .i64 ta,.int .i64 ts] 108);have J4:=Za (J3.below hbp);obtain⟨gx,HGX⟩:∃gx,Hid (w12.heap.size=gx):=⟨_,rfl⟩;obtain⟨w13,HW13⟩:∃W,Hid (w12.alloc (.cells #[.int .i64 tk,.int .i64 ta,.int .i64 ts] 108)=W):=⟨_,rfl⟩;rw[HW13.out]at X4 J4;rw[HGX.out]at X4;clear hbp J3
      go_upto_region 33 with fail
      rw[HW13.out,HGX.out];clear d0 d1 d2;obtain⟨x0,x1,x2⟩:=X4.c3
      by_cases hk:tk=(key:Int)
      ·have hk':(tk==(key:Int))=true:=by simp[hk]
       by_cases hu2:ta=(u:Int)
       ·have hu2':(ta==(u:Int))=true:=by simp[hu2]
        have HEQ:Hid (Ot (s.tals.take (j+1)) key u=sm+ts):=by unfold Hid;rw[HSS.out,if_pos ⟨hk,hu2⟩]
        rw[HEQ.out]at HSN;have hwr:IntKind.i64.wrap (sm+ts)=sm+ts:=by have:=HSN.out;have:=hfew.2;exact wrapL (by omega) (by omega)
        clear hk hu2
        go_wp2_with fail
        go_roundw
        case rel=>exact⟨j+1,by omega,by rw[HEQ.out],by go_num,J4⟩
        case measure=>simp[intOf];omega
       have hu2':(ta==(u:Int))=false:=by simp[hu2]
       have HEQ:Hid (Ot (s.tals.take (j+1)) key u=sm):=by unfold Hid;rw[HSS.out,if_neg (fun h=>hu2 h.2)];omega
       clear hk hu2
       go_wp2_with fail
       go_roundw
       case rel=>exact⟨j+1,by omega,by rw[HEQ.out],by go_num,J4⟩
       case measure=>simp[intOf];omega
      have hk':(tk==(key:Int))=false:=by simp[hk]
      have HEQ:Hid (Ot (s.tals.take (j+1)) key u=sm):=by unfold Hid;rw[HSS.out,if_neg (fun h=>hk h.1)];omega
      clear hk
      go_wp2_with fail
      go_roundw
      case rel=>exact⟨j+1,by omega,by rw[HEQ.out],by go_num,J4⟩
      case measure=>simp[intOf];omega
     have hlt':¬(j:Int)<(s.tals.length:Int):=by omega
     have hjl:s.tals.take j=s.tals:=List.take_of_length_le (by omega);rw[hjl];have HSZ:=Za (sumA_bound (k:=key) (a:=u) HTB.out j);rw[hjl]at HSZ;clear hjl;have hlen3:l.length≤300:=HL300.out;obtain⟨sm,HSM⟩:∃sm,Hid (Ot s.tals key u=sm):=⟨_,rfl⟩;rw[HSM.out]at HSZ ⊢
     go_wp2_with fail
     clear hlen3 hlt hlt'
     go_loopw [19,149] (fun z i wr=>∃k:Nat,k≤l.length∧z=.int .i64 (sm+Qg (l.take k) key u)∧i=.int .i64 k∧Hid (PI WB wr WB.heap.size (w.heap.size+3) go (.slice aQ cx.length cQ) lv tv cx LF TB)) (fun _ i _=>l.length - (intOf i).toNat)
     case atStart=>exact⟨0,Nat.zero_le _,by simp[Qg],rfl,J3⟩
     obtain⟨k,hk,rfl,rfl,J5⟩:=hrel;obtain⟨w14,rfl⟩:∃w14,w14=wr:=⟨wr,rfl⟩;clear J3
     by_cases hlt:k<l.length
     ·have hlt':(k:Int)<(l.length:Int):=by omega
      obtain⟨x,HU⟩:∃x,Hid (l[k]? =some x):=⟨_,List.getElem?_eq_getElem hlt⟩;have HSS:=Za (sumU_take (k:=key) (a:=u) HU.out);have HSN:=Za (sumU_bound (k:=key) (a:=u) HIB.out (k+1));obtain⟨q0,HQ0⟩:∃q0,Hid (Qg (l.take k) key u=q0):=⟨_,rfl⟩;rw[HQ0.out]at HSS ⊢;obtain⟨ub,uo,a5,cap5,hba,d0,d1,d2,d3,d4,-,-⟩:=(U4.below J5.bl (nlr _)).at HU.out;subst hba;obtain⟨ua,us,uk,uy,ui⟩:=x;have hbp:=bpl w14 (.cells #[.int .i64 ua,.slice a5 us.length cap5,.int .i64 uk,.int .i64 uy,.int .i64 ui] 33);have X6:=Za (Box.new w14 [.int .i64 ua,.slice a5 us.length cap5,.int .i64 uk,.int .i64 uy,.int .i64 ui] 33);have J6:=Za (J5.below hbp);obtain⟨gx,HGX⟩:∃gx,Hid (w14.heap.size=gx):=⟨_,rfl⟩;obtain⟨w15,HW15⟩:∃W,Hid (w14.alloc (.cells #[.int .i64 ua,.slice a5 us.length cap5,.int .i64 uk,.int .i64 uy,.int .i64 ui] 33)=W):=⟨_,rfl⟩;rw[HW15.out]at X6 J6;rw[HGX.out]at X6;clear hbp J5
      go_upto_region 39 with fail
      rw[HW15.out,HGX.out];clear d0 d1 d2 d3 d4;have x0:=X6.get 0 rfl;have x2:=X6.get 2 rfl;have x3:=X6.get 3 rfl;have x4:=X6.get 4 rfl
      by_cases h5:uk=5
      ·have h5':(uk==5)=true:=by simp[h5]
       by_cases hky:uy=(key:Int)
       ·have hky':(uy==(key:Int))=true:=by simp[hky]
        by_cases hua:ua=(u:Int)
        ·have hua':(ua==(u:Int))=true:=by simp[hua]
         have HEQ:Hid (Qg (l.take (k+1)) key u=q0+ui):=by unfold Hid;rw[HSS.out];unfold cntU;rw[if_pos ⟨h5,hky,hua⟩]
         rw[HEQ.out]at HSN;have hwr:IntKind.i64.wrap (sm+q0+ui)=sm+(q0+ui):=by have:=HSN.out;have:=HSZ.out;have:=hfew.2;have:=HL300.out;rw[wrapL (by omega) (by omega)];omega
         clear h5 hky hua
         go_wp2_with fail
         go_roundw
         case rel=>exact⟨k+1,by omega,by rw[HEQ.out],by go_num,J6⟩
         case measure=>simp[intOf];omega
        have hua':(ua==(u:Int))=false:=by simp[hua]
        have HEQ:Hid (Qg (l.take (k+1)) key u=q0):=by unfold Hid;rw[HSS.out];unfold cntU;rw[if_neg (fun h=>hua h.2.2)];omega
        clear h5 hky hua
        go_wp2_with fail
        go_roundw
        case rel=>exact⟨k+1,by omega,by rw[HEQ.out],by go_num,J6⟩
        case measure=>simp[intOf];omega
       have hky':(uy==(key:Int))=false:=by simp[hky]
       have HEQ:Hid (Qg (l.take (k+1)) key u=q0):=by unfold Hid;rw[HSS.out];unfold cntU;rw[if_neg (fun h=>hky h.2.1)];omega
       clear h5 hky
       go_wp2_with fail
       go_roundw
       case rel=>exact⟨k+1,by omega,by rw[HEQ.out],by go_num,J6⟩
       case measure=>simp[intOf];omega
      have h5':(uk==5)=false:=by simp[h5]
      have HEQ:Hid (Qg (l.take (k+1)) key u=q0):=by unfold Hid;rw[HSS.out];unfold cntU;rw[if_neg (fun h=>h5 h.1)];omega
      clear h5
      go_wp2_with fail
      go_roundw
      case rel=>exact⟨k+1,by omega,by rw[HEQ.out],by go_num,J6⟩
      case measure=>simp[intOf];omega
     have hlt':¬(k:Int)<(l.length:Int):=by omega
     have hkl:l.take k=l:=List.take_of_length_le (by omega);rw[hkl];clear hkl
     have HSU:Hid (tlsK s.tals l s.clock.length key++tlsI s.tals l key (u+1)=TB++if sm+Qg l key u=0 then[]else[⟨key,u,sm+Qg l key u⟩]):=by
      unfold Hid;rw[tlsI,←List.append_assoc,HTBB.out,HSM.out]
     obtain⟨q,HQQ⟩:∃q,Hid (sm+Qg l key u=q):=⟨_,rfl⟩;rw[HQQ.out]at HSU ⊢
     by_cases h0:q=0
     ·subst h0;rw[if_pos rfl,List.append_nil]at HSU
      go_wp2_with fail
      go_roundw
      case rel=>exact⟨u+1,tv,by omega,by go_num,by rw[HSU.out];exact J5⟩
      case measure=>simp[intOf];omega
     have h0':(q != 0)=true:=by simp[h0]
     rw[if_neg h0]at HSU;clear h0;have b2:=J5.box.get 2 rfl;have HSB:=Za (Nat.le_trans J5.ge (Nat.le_of_lt J5.box.lt));have JA:=Za (J5.below ((Below.refl w14.heap.size w14).alloc (nlr _) (.cells #[.int .i64 (key:Int),.int .i64 (u:Int),.int .i64 q] 108)))
     go_wp2_with (at_builtin;refine wpList_append_own _ rfl (.tmp 176) (.tmp 181) 25 rfl WB.heap.size 108 iT (.agg #[.int .i64 0,.int .i64 0,.int .i64 0]) 3 24 Tryz.underlying25 hiT hzT0 hzT1 hzT2 rfl (by decide) _ _ _ rfl JA.tl ⟨w14.heap.size,0,none⟩ 1 1 (Yb ⟨key,u,q⟩) rfl rfl ?c1 ?c2 ?c3 ?c4 ?c5 ?_)
     case c1=>exact fun _ _ h=>h
     case c2=>exact Jc ⟨key,u,q⟩
     case c3=>unfold maxLen;have:=HTBL.out;omega
     case c4=>have:=HTBL.out;omega
     case c5=>have:=HSB.out;simp;omega
     intro v' w16 hown' hgrow _;have T6:Xm 108 3 Yb w16 WB.heap.size v' (TB++[⟨key,u,q⟩]):=Xm.more hown';obtain⟨TD,HTD⟩:∃TD,Hid (TB++[(⟨key,u,q⟩:Tal)]=TD):=⟨_,rfl⟩;rw[HTD.out]at T6 HSU;obtain⟨va,vc,hvv,-⟩:=Zl Zg T6;subst hvv;obtain⟨B6,C6,V6,E6⟩:=JA.grown hgrow (by have:=HSB.out;simp;omega);have J7:=Za (PI.setT2 B6 C6 V6 T6 E6 JA.ge);have c2':=B6.get 2 rfl;have f2':=B6.free 2;clear hown' hgrow b2 B6 C6 V6 T6 E6 J5 JA
     go_wp2_with fail
     go_roundw
     case rel=>exact⟨u+1,_,by omega,by go_num,by rw[HSU.out];exact J7⟩
     case measure=>simp[intOf];omega
    have hut':¬(u:Int)<(s.clock.length:Int):=by omega
    obtain rfl:u=s.clock.length:=by omega
    go_wp2_with fail
    go_roundw
    case rel=>exact⟨key+1,tv,by omega,by go_num,Za (by rw[tlsK];exact J2.out)⟩
    case measure=>simp[intOf];omega
   have hk16':¬(key:Int)≤15:=by omega
   obtain rfl:key=16:=by omega
   have HXE:Hid (X=⟨cx,LF,tlsK s.tals l s.clock.length 16⟩):=by unfold Hid;rw[←HX.out,←HLF.out,play_lives HOK.clock herr.out HOK.bound HOK.order,play_tals (n:=s.clock.length) HOK.out herr.out,hcx.out]
   obtain⟨TK,HTK6⟩:∃TK,Hid (tlsK s.tals l s.clock.length 16=TK):=⟨_,rfl⟩;rw[HTK6.out]at J1 HXE;obtain⟨l1,l2,hlv,-⟩:=Zl Ze J1.lv;obtain⟨t1,t2,htv,-⟩:=Zl Zg J1.tl;subst hlv;subst htv;have R5:=R4.below J1.bl (nlr _);have Z5:=Z4.below J1.bl (nlr _);have b0:=J1.box.get 0 rfl;have r0:=R5.get 0 rfl;have fr0:=R5.free 0;have b1:=J1.box.get 1 rfl;have r1:=R5.get 1 rfl;have fr1:=R5.free 1;have b2:=J1.box.get 2 rfl;have r2:=R5.get 2 rfl;have fr2:=R5.free 2;have z0:=Z5.get 0 rfl;have fz0:=Z5.free 0;have z1:=Z5.get 1 rfl;have fz1:=Z5.free 1;have hR:=(((((R5.set 0 (.slice aQ cx.length cQ)).set 1 (.slice l1 LF.length l2)).set 2 (.slice t1 TK.length t2)).away (g':=w.heap.size+1+1) (i:=0) (v:=.int .i64 0) (by omega)).away (g':=w.heap.size+1+1) (i:=1) (v:=.int .i64 0) (by omega));have hZ:=(((((Z5.away (g':=w.heap.size+1) (i:=0) (v:=.slice aQ cx.length cQ) (by omega)).away (g':=w.heap.size+1) (i:=1) (v:=.slice l1 LF.length l2) (by omega)).away (g':=w.heap.size+1) (i:=2) (v:=.slice t1 TK.length t2) (by omega)).set 0 (.int .i64 0)).set 1 (.int .i64 0))
   have S5':Yl w10 (w.heap.size+3) (.agg #[.slice aQ cx.length cQ,.slice l1 LF.length l2,.slice t1 TK.length t2]) X:=by
    rw[HXE.out];have hB:w.heap.size+3≤WB.heap.size:=by have:=hszB.out;omega
    exact⟨_,_,_,rfl,J1.ck,Zw J1.lv hB,Zw J1.tl hB⟩
   have hlt3:w.heap.size+1<w.heap.size+3:=by omega
   have hlt4:w.heap.size+1+1<w.heap.size+3:=by omega
   have S3:=Za (((((S5'.away hlt3 0 (.slice aQ cx.length cQ)).away hlt3 1 (.slice l1 LF.length l2)).away hlt3 2 (.slice t1 TK.length t2)).away hlt4 0 (.int .i64 0)).away hlt4 1 (.int .i64 0));have hBB:=Za ((((((HB4.trans (J1.bl.mono HB4.size)).setCell (p:=⟨w.heap.size+1,0,none⟩) (by show w.heap.size≤w.heap.size+1;omega) (.slice aQ cx.length cQ)).setCell (p:=⟨w.heap.size+1,1,none⟩) (by show w.heap.size≤w.heap.size+1;omega) (.slice l1 LF.length l2)).setCell (p:=⟨w.heap.size+1,2,none⟩) (by show w.heap.size≤w.heap.size+1;omega) (.slice t1 TK.length t2)).setCell (p:=⟨w.heap.size+1+1,0,none⟩) (by show w.heap.size≤w.heap.size+1+1;omega) (.int .i64 0)).setCell (p:=⟨w.heap.size+1+1,1,none⟩) (by show w.heap.size≤w.heap.size+1+1;omega) (.int .i64 0))
   go_wp2_with fail
   refine bodyPost_ret (Xz rfl _ _ (w.heap.size+1) (w.heap.size+1+1) 27 65 _ _ (0,0) (0,0) _ _ rfl hR Tryz.underlying27 rfl Tryz.sizeState rfl hZ Tryz.underlying65 rfl Tryz.sizeFault) rfl ⟨_,rfl,S3.out,hBB.out⟩
  have hce':(ce != 0)=true:=by simp[hce]
  rw[if_neg hce]at HX;have hX:=HX.out;subst hX;clear HX hce
  go_enter Tryz.func39,Tryz.ntmps39
  obtain⟨cG0,cG1,cG2⟩:=G0.c3
  go_wp2_with fail
  refine(Jx _ s s.clock.length _ S0.out).mono ?_;rintro e w1 ⟨rfl,hb⟩;have HB1:=Za (Zb HB0.out hb);have S1:=Za (S0.below hb (nlr _));have C1:=Za (C0.below hb (nlr _));have L1:=Za (L0.below hb (nlr _));have T1:=Za (T0.below hb (nlr _));have U1:=Za (U0.below hb (nlr _));have G1:=Za (G0.below hb (nlr _));have R1:=Za (R0.below hb (nlr _));have Z1:=Za (Z0.below hb (nlr _));clear HB0 hb S0 C0 L0 T0 U0 G0 R0 Z0;rw[HR.out,HQ.out];clear cG0 cG1 cG2;have HB2:=Za (Zb HB1.out (bpl w1 (.cells #[.int .i64 0,.int .i64 q] 65)));have S2:=Za (S1.below (bpl w1 (.cells #[.int .i64 0,.int .i64 q] 65)) (nlr _));have C2:=Za (C1.below (bpl w1 (.cells #[.int .i64 0,.int .i64 q] 65)) (nlr _));have L2:=Za (L1.below (bpl w1 (.cells #[.int .i64 0,.int .i64 q] 65)) (nlr _));have T2:=Za (T1.below (bpl w1 (.cells #[.int .i64 0,.int .i64 q] 65)) (nlr _));have U2:=Za (U1.below (bpl w1 (.cells #[.int .i64 0,.int .i64 q] 65)) (nlr _));have G2:=Za (G1.below (bpl w1 (.cells #[.int .i64 0,.int .i64 q] 65)) (nlr _));have R2:=Za (R1.below (bpl w1 (.cells #[.int .i64 0,.int .i64 q] 65)) (nlr _));have Z2:=Za (Z1.below (bpl w1 (.cells #[.int .i64 0,.int .i64 q] 65)) (nlr _));have V2:=Za (Box.new w1 [.int .i64 0,.int .i64 q] 65);clear HB1 S1 C1 L1 T1 U1 G1 R1 Z1;obtain⟨cV0,cV1⟩:=V2.c2;obtain⟨cG0,cG1,cG2⟩:=G2.c3
  go_wp2_with fail
  refine(clock_ref _ _ s.clock l s.clock.length _ C2.out U2.out).mono ?_;rintro e w3 ⟨vQ,rfl,ho,hb⟩;have HB3:=Za (Zb HB2.out hb);have S3:=Za (S2.below hb (nlr _));have C3:=Za (C2.below hb (nlr _));have L3:=Za (L2.below hb (nlr _));have T3:=Za (T2.below hb (nlr _));have U3:=Za (U2.below hb (nlr _));have G3:=Za (G2.below hb (nlr _));have R3:=Za (R2.below hb (nlr _));have Z3:=Za (Z2.below hb (nlr _));have V3:=Za (V2.below hb (nlr _));have Q3:=Za ho;clear HB2 hb S2 C2 L2 T2 U2 G2 R2 Z2 V2;clear ho;rw[HCE.out,HCA.out];clear cG0 cG1 cG2;clear cV0 cV1;have hzl:=Z3.lt;have n1:¬(w3.heap.size=w.heap.size+1):=by omega
  have n2:¬(w.heap.size+1=w3.heap.size):=by omega
  have n3:¬(w3.heap.size=w.heap.size+2):=by omega
  have n4:¬(w.heap.size+2=w3.heap.size):=by omega
  have HB4:=Za (Zb HB3.out (bpl w3 (.cells #[.int .i64 ce,.int .i64 ca] 65)));have S4:=Za (S3.below (bpl w3 (.cells #[.int .i64 ce,.int .i64 ca] 65)) (nlr _));have C4:=Za (C3.below (bpl w3 (.cells #[.int .i64 ce,.int .i64 ca] 65)) (nlr _));have L4:=Za (L3.below (bpl w3 (.cells #[.int .i64 ce,.int .i64 ca] 65)) (nlr _));have T4:=Za (T3.below (bpl w3 (.cells #[.int .i64 ce,.int .i64 ca] 65)) (nlr _));have U4:=Za (U3.below (bpl w3 (.cells #[.int .i64 ce,.int .i64 ca] 65)) (nlr _));have G4:=Za (G3.below (bpl w3 (.cells #[.int .i64 ce,.int .i64 ca] 65)) (nlr _));have R4:=Za (R3.below (bpl w3 (.cells #[.int .i64 ce,.int .i64 ca] 65)) (nlr _));have Z4:=Za (Z3.below (bpl w3 (.cells #[.int .i64 ce,.int .i64 ca] 65)) (nlr _));have V4:=Za (V3.below (bpl w3 (.cells #[.int .i64 ce,.int .i64 ca] 65)) (nlr _));have Q4:=Za (Q3.below (bpl w3 (.cells #[.int .i64 ce,.int .i64 ca] 65)) (nlr _));have Y4:=Za (Box.new w3 [.int .i64 ce,.int .i64 ca] 65);clear HB3 S3 C3 L3 T3 U3 G3 R3 Z3 V3 Q3;obtain⟨cY0,cY1⟩:=Y4.c2;obtain⟨cR0,cR1,cR2⟩:=R4.c3;obtain⟨cZ0,cZ1⟩:=Z4.c2;have f0:=R4.free 0;have f1:=R4.free 1;have f2:=R4.free 2;have g0:=Z4.free 0;have g1:=Z4.free 1
  go_upto_region 7 with fail
  go_region
  go_wp2_with fail
  have hR:=((((R4.set 0 (.slice none 0 0)).set 1 (.slice none 0 0)).set 2 (.slice none 0 0)).away (g':=w.heap.size+1+1) (i:=0) (v:=.int .i64 ce) (by omega)).away (g':=w.heap.size+1+1) (i:=1) (v:=.int .i64 ca) (by omega);have hZ:=((((Z4.away (g':=w.heap.size+1) (i:=0) (v:=.slice none 0 0) (by omega)).away (g':=w.heap.size+1) (i:=1) (v:=.slice none 0 0) (by omega)).away (g':=w.heap.size+1) (i:=2) (v:=.slice none 0 0) (by omega)).set 0 (.int .i64 ce)).set 1 (.int .i64 ca);refine bodyPost_ret (Xz rfl _ _ (w.heap.size+1) (w.heap.size+1+1) 27 65 _ _ (0,0) (0,0) _ _ rfl hR.drew Tryz.underlying27 rfl Tryz.sizeState rfl hZ.drew Tryz.underlying65 rfl Tryz.sizeFault) rfl ⟨_,rfl,Yl.none _ _,?_⟩
  exact(((((HB4.setCell (by show w.heap.size≤w.heap.size+1;omega) _).setCell (by show w.heap.size≤w.heap.size+1;omega) _).setCell (by show w.heap.size≤w.heap.size+1;omega) _).setCell (by show w.heap.size≤w.heap.size+1+1;omega) _).setCell (by show w.heap.size≤w.heap.size+1+1;omega) _).drew
 have hr':(r != 0)=true:=by simp[hr]
 obtain rfl:r=E:=by rw[←HE.out];simp[hr]
 obtain rfl:(0:Int)=A:=by rw[←HA.out];simp[hr]
 rw[if_neg hr]at HX;have hX:=HX.out;subst hX;clear HE HA HX hr
 go_enter Tryz.func39,Tryz.ntmps39
 obtain⟨cG0,cG1,cG2⟩:=G0.c3
 go_wp2_with fail
 refine(Jx _ s s.clock.length _ S0.out).mono ?_;rintro e w1 ⟨rfl,hb⟩;have HB1:=Za (Zb HB0.out hb);have S1:=Za (S0.below hb (nlr _));have C1:=Za (C0.below hb (nlr _));have L1:=Za (L0.below hb (nlr _));have T1:=Za (T0.below hb (nlr _));have U1:=Za (U0.below hb (nlr _));have G1:=Za (G0.below hb (nlr _));have R1:=Za (R0.below hb (nlr _));have Z1:=Za (Z0.below hb (nlr _));clear HB0 hb S0 C0 L0 T0 U0 G0 R0 Z0;rw[HR.out,HQ.out];have hzl:=Z1.lt;have n1:¬(w1.heap.size=w.heap.size+1):=by omega
 have n2:¬(w.heap.size+1=w1.heap.size):=by omega
 have n3:¬(w1.heap.size=w.heap.size+2):=by omega
 have n4:¬(w.heap.size+2=w1.heap.size):=by omega
 clear cG0 cG1 cG2;have HB2:=Za (Zb HB1.out (bpl w1 (.cells #[.int .i64 r,.int .i64 q] 65)));have S2:=Za (S1.below (bpl w1 (.cells #[.int .i64 r,.int .i64 q] 65)) (nlr _));have C2:=Za (C1.below (bpl w1 (.cells #[.int .i64 r,.int .i64 q] 65)) (nlr _));have L2:=Za (L1.below (bpl w1 (.cells #[.int .i64 r,.int .i64 q] 65)) (nlr _));have T2:=Za (T1.below (bpl w1 (.cells #[.int .i64 r,.int .i64 q] 65)) (nlr _));have U2:=Za (U1.below (bpl w1 (.cells #[.int .i64 r,.int .i64 q] 65)) (nlr _));have G2:=Za (G1.below (bpl w1 (.cells #[.int .i64 r,.int .i64 q] 65)) (nlr _));have R2:=Za (R1.below (bpl w1 (.cells #[.int .i64 r,.int .i64 q] 65)) (nlr _));have Z2:=Za (Z1.below (bpl w1 (.cells #[.int .i64 r,.int .i64 q] 65)) (nlr _));have V2:=Za (Box.new w1 [.int .i64 r,.int .i64 q] 65);clear HB1 S1 C1 L1 T1 U1 G1 R1 Z1;obtain⟨cV0,cV1⟩:=V2.c2;obtain⟨cR0,cR1,cR2⟩:=R2.c3;obtain⟨cZ0,cZ1⟩:=Z2.c2;have f0:=R2.free 0;have f1:=R2.free 1;have f2:=R2.free 2;have g0:=Z2.free 0;have g1:=Z2.free 1
 go_upto_region 4 with fail
 go_region
 go_wp2_with fail
 have hR:=((((R2.set 0 (.slice none 0 0)).set 1 (.slice none 0 0)).set 2 (.slice none 0 0)).away (g':=w.heap.size+1+1) (i:=0) (v:=.int .i64 r) (by omega)).away (g':=w.heap.size+1+1) (i:=1) (v:=.int .i64 0) (by omega);have hZ:=((((Z2.away (g':=w.heap.size+1) (i:=0) (v:=.slice none 0 0) (by omega)).away (g':=w.heap.size+1) (i:=1) (v:=.slice none 0 0) (by omega)).away (g':=w.heap.size+1) (i:=2) (v:=.slice none 0 0) (by omega)).set 0 (.int .i64 r)).set 1 (.int .i64 0);refine bodyPost_ret (Xz rfl _ _ (w.heap.size+1) (w.heap.size+1+1) 27 65 _ _ (0,0) (0,0) _ _ rfl hR.drew Tryz.underlying27 rfl Tryz.sizeState rfl hZ.drew Tryz.underlying65 rfl Tryz.sizeFault) rfl ⟨_,rfl,Yl.none _ _,?_⟩
 exact(((((HB2.setCell (by show w.heap.size≤w.heap.size+1;omega) _).setCell (by show w.heap.size≤w.heap.size+1;omega) _).setCell (by show w.heap.size≤w.heap.size+1;omega) _).setCell (by show w.heap.size≤w.heap.size+1+1;omega) _).setCell (by show w.heap.size≤w.heap.size+1+1;omega) _).drew
end Go.Proofs.YtfhecilhcofboaaGreat
