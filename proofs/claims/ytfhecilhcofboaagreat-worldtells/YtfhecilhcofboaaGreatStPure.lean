/- What stays of updates, as lists in order: the same in whatever order they come that fits. (Ahead of chapter 4's code: lists alone.) What was counted, as lists in order: sums by key and author, the same in whatever order updates come. (Ahead of chapter 4's code: lists alone.) Right states stay right, update by update; two that have not seen each other may come either way. (Ahead of chapter 4's code: lists alone.) -/
import Derived.Test.YtfhecilhcofboaaGreatSortI
namespace Go.Proofs.YtfhecilhcofboaaGreat
open Go.RowKit

structure Zk where
 set:Bool
 key:Int
 item:Int
 author:Int
 seq:Int

def Jd(a b:Zk):Prop:=
 (a.set=false∧b.set=true)∨(a.set=b.set∧(a.key<b.key∨(a.key=b.key∧(a.item<b.item∨(a.item=b.item∧(a.author<b.author∨(a.author=b.author∧a.seq<b.seq)))))))
def Xc(a b:Zk):Bool:=(!a.set&&b.set)||(a.set==b.set&&(decide (a.key<b.key)||(decide (a.key=b.key)&&(decide (a.item<b.item)||(decide (a.item=b.item)&&(decide (a.author<b.author)||(decide (a.author=b.author)&&decide (a.seq<b.seq))))))))
theorem zU{a b:Zk}:Xc a b=true↔Jd a b:=by
 unfold Xc Jd
 simp
theorem Uj(a:Zk):¬Jd a a:=by
 unfold Jd
 rintro(⟨h1,h2⟩|⟨-,h⟩)
 ·rw[h1]at h2;cases h2
 omega
theorem Je{a b c:Zk}(h:Jd a b)(h':Jd b c):Jd a c:=by
 unfold Jd at*
 rcases h with⟨h1,h2⟩|⟨h1,h2⟩
 ·rcases h' with⟨h3,h4⟩|⟨h3,h4⟩
  ·exact .inl ⟨h1,h4⟩
  exact .inl ⟨h1,by rw[←h3];exact h2⟩
 rcases h' with⟨h3,h4⟩|⟨h3,h4⟩
 ·exact .inl ⟨by rw[h1];exact h3,h4⟩
 exact .inr ⟨h1.trans h3,by omega⟩
theorem yJ(a b:Zk):Jd a b∨a=b∨Jd b a:=by
 obtain⟨s1,k1,i1,u1,q1⟩:=a;obtain⟨s2,k2,i2,u2,q2⟩:=b;unfold Jd
 cases s1 <;> cases s2 <;> simp
 ·omega
 omega

def Yx(l:List Zk):Prop:=l.Pairwise Jd
theorem inOrder_ext:∀{a b:List Zk},Yx a→Yx b→(∀x,x ∈ a↔x ∈ b)→a=b
 |[],[],_,_,_=>rfl
 |[],y::b,_,_,h=>by have:=(h y).2 (by simp);simp at this
 |x::a,[],_,_,h=>by have:=(h x).1 (by simp);simp at this
 |x::a,y::b,ha,hb,h=>by
  obtain⟨ha1,ha2⟩:=List.pairwise_cons.1 ha;obtain⟨hb1,hb2⟩:=List.pairwise_cons.1 hb
  have hxy:x=y:=by
   rcases List.mem_cons.1 ((h x).1 (by simp))with e|e
   ·exact e
   rcases List.mem_cons.1 ((h y).2 (by simp))with e'|e'
   ·exact e'.symm
   exact absurd (Je (ha1 y e') (hb1 x e)) (Uj x)
  subst hxy;rw[inOrder_ext (a:=a) (b:=b) ha2 hb2 (fun z=>?_)]
  constructor
  ·intro hz
   rcases List.mem_cons.1 ((h z).1 (List.mem_cons_of_mem _ hz))with e|e
   ·subst e;exact absurd (ha1 z hz) (Uj z)
   exact e
  intro hz
  rcases List.mem_cons.1 ((h z).2 (List.mem_cons_of_mem _ hz))with e|e
  ·subst e;exact absurd (hb1 z hz) (Uj z)
  exact e

def Js(x:Zk):List Zk→List Zk
 |[]=>[x]
 |y::r=>if Xc x y then x::y::r else y::Js x r
theorem yY{x z:Zk}:∀{l:List Zk},z ∈ Js x l↔z=x∨z ∈ l
 |[]=>by simp[Js]
 |y::r=>by
  unfold Js
  split
  ·simp
  rw[List.mem_cons,yY (l:=r),List.mem_cons]
  constructor
  ·rintro(h|h|h)
   ·exact .inr (.inl h)
   ·exact .inl h
   exact .inr (.inr h)
  rintro(h|h|h)
  ·exact .inr (.inl h)
  ·exact .inl h
  exact .inr (.inr h)
theorem Qn{x:Zk}:∀{l:List Zk},Yx l→x ∉ l→Yx (Js x l)
 |[],_,_=>by simp[Js,Yx]
 |y::r,h,hx=>by
  obtain⟨h1,h2⟩:=List.pairwise_cons.1 h;unfold Js
  split
  ·next hc=>
   rw[zU]at hc;refine List.pairwise_cons.2 ⟨fun z hz=>?_,h⟩
   rcases List.mem_cons.1 hz with rfl|hz
   ·exact hc
   exact Je hc (h1 z hz)
  next hc=>
  rw[zU]at hc
  have hyx:Jd y x:=by
   rcases yJ x y with e|e|e
   ·exact absurd e hc
   ·subst e;simp at hx
   exact e
  refine List.pairwise_cons.2 ⟨fun z hz=>?_,Qn h2 (fun hm=>hx (List.mem_cons_of_mem _ hm))⟩
  rcases yY.1 hz with rfl|hz
  ·exact hyx
  exact h1 z hz

def Yy(u:Upd)(x:Zk):Bool:=decide (u.kind=1∨u.kind=2∨u.kind=4)&&(decide (u.kind=4)==x.set)&&decide (u.key=x.key)&&Vy u.seen x.author x.seq&&(!x.set||decide (u.item=x.item))
def xR(u:Upd):Option Zk:=if u.kind=1∨u.kind=3 then some ⟨decide (u.kind=3),u.key,u.item,u.author,Uc u+1⟩else none
def Xl(lv:List Zk)(u:Upd):List Zk:=
 match xR u with
 |some x=>Js x (lv.filter fun y=> !Yy u y)
 |none=>lv.filter fun y=> !Yy u y
def playLv:List Zk→List Upd→List Zk
 |lv,[]=>lv
 |lv,u::r=>playLv (Xl lv u) r
theorem yC{lv:List Zk}{u:Upd}{x:Zk}:x ∈ Xl lv u↔xR u=some x∨(x ∈ lv∧Yy u x=false):=by
 unfold Xl
 split
 ·next y hy=>
  rw[yY,List.mem_filter,hy]
  constructor
  ·rintro(rfl|⟨h1,h2⟩)
   ·exact .inl rfl
   exact .inr ⟨h1,by simpa using h2⟩
  rintro(h|⟨h1,h2⟩)
  ·exact .inl (Option.some.inj h).symm
  exact .inr ⟨h1,by simpa using h2⟩
 next hy=>
 rw[List.mem_filter,hy]
 simp

def Bound(c:List Int)(lv:List Zk):Prop:=∀x ∈ lv,0≤x.author∧x.author<c.length∧x.seq≤c.getD x.author.toNat 0
theorem Qb{u:Upd}{x:Zk}(h:xR u=some x):x.author=u.author∧x.seq=Uc u+1:=by
 unfold xR at h
 split at h
 ·simp only[Option.some.injEq]at h;subst h;exact⟨rfl,rfl⟩
 cases h
theorem apply_bound{n:Int}{c:List Int}{lv:List Zk}{u:Upd}(hg:Zn c n=0)(hw:Yz u c n=0)(hb:Bound c lv)(ho:Yx lv):
  Bound (Ja c u.author) (Xl lv u)∧Yx (Xl lv u):=by
 obtain⟨-,ht⟩:=Jr hg hw;obtain⟨hwu,hent,-⟩:=(Jo hg).1 hw;obtain⟨-,a1,a2,-⟩:=Xj hwu;obtain⟨-,-,g3,-⟩:=Zm.1 hg
 constructor
 ·intro x hx;rw[Jg]
  rcases yC.1 hx with h|⟨h,-⟩
  ·obtain⟨e1,e2⟩:=Qb h;rw[e1,e2,ht,if_pos rfl,hent];exact⟨a1,by omega,Int.le_refl _⟩
  obtain⟨b1,b2,b3⟩:=hb x h;refine⟨b1,b2,?_⟩;rw[ht]
  split <;> omega
 have hf:Yx (lv.filter fun y=> !Yy u y):=List.Pairwise.filter _ ho;unfold Xl
 split
 ·next x hx=>
  refine Qn hf (fun hm=>?_);obtain⟨e1,e2⟩:=Qb hx;obtain⟨-,-,b3⟩:=hb x (List.mem_filter.1 hm).1;rw[e1,e2,hent]at b3;omega
 exact hf

theorem not_ends{u:Upd}{x:Zk}(h:u.seen.getD x.author.toNat 0<x.seq):Yy u x=false:=by
 unfold Yy Vy;have:¬(0≤x.author∧x.author<u.seen.length∧x.seq≤u.seen.getD x.author.toNat 0):=by omega
 simp only[this,decide_false,Bool.and_false,Bool.false_and]

theorem mem_playLv{n:Int}:∀(l:List Upd) {c:List Int} {lv:List Zk},Zn c n=0→Xf n c l=0→Bound c lv→
  ∀x,x ∈ playLv lv l↔(x ∈ lv∨∃u ∈ l,xR u=some x)∧∀v ∈ l,Yy v x=false
 |[],c,lv,_,_,_,x=>by simp[playLv]
 |u::r,c,lv,hg,he,hb,x=>by
  obtain⟨hw,hr⟩:=Vc he;obtain⟨g',ht⟩:=Jr hg hw;obtain⟨hwu,hent,hsee⟩:=(Jo hg).1 hw
  have hb':Bound (Ja c u.author) (Xl lv u):=by
   intro y hy;rw[Jg];obtain⟨-,a1,a2,-⟩:=Xj hwu;obtain⟨-,-,g3,-⟩:=Zm.1 hg
   rcases yC.1 hy with h|⟨h,-⟩
   ·obtain⟨e1,e2⟩:=Qb h;rw[e1,e2,ht,if_pos rfl,hent];exact⟨a1,by omega,Int.le_refl _⟩
   obtain⟨b1,b2,b3⟩:=hb y h;refine⟨b1,b2,?_⟩;rw[ht]
   split <;> omega
  rw[playLv,mem_playLv r g' hr hb' x,yC]
  -- what comes later is not ended by u: u has not seen it
  have hlater:∀v ∈ r,xR v=some x→Yy u x=false:=by
   intro v hv hn;obtain⟨e1,e2⟩:=Qb hn;obtain⟨p,q,rfl⟩:=List.append_of_mem hv;obtain⟨hp,hq⟩:=errL_split hr;obtain⟨gC,mC⟩:=xK p g' hp;obtain⟨hvC,-⟩:=Vc hq;obtain⟨-,v2,-⟩:=(Jo gC).1 hvC;refine not_ends ?_;rw[e1,e2];have h1:=hsee v.author.toNat;have h2:=mC v.author.toNat;have h3:=ht v.author.toNat
   have h4:c.getD v.author.toNat 0≤(Ja c u.author).getD v.author.toNat 0:=by rw[h3];split <;> omega
   omega
  have hself:xR u=some x→Yy u x=false:=by
   intro hn;obtain⟨e1,e2⟩:=Qb hn;refine not_ends ?_;rw[e1,e2];unfold Uc;omega
  constructor
  ·rintro⟨h1,h2⟩;refine⟨?_,fun v hv=>?_⟩
   ·rcases h1 with(h|⟨h,-⟩)|⟨v,hv,hn⟩
    ·exact .inr ⟨u,by simp,h⟩
    ·exact .inl h
    exact .inr ⟨v,List.mem_cons_of_mem _ hv,hn⟩
   rcases List.mem_cons.1 hv with rfl|hv
   ·rcases h1 with(h|⟨-,h⟩)|⟨v',hv',hn⟩
    ·exact hself h
    ·exact h
    exact hlater v' hv' hn
   exact h2 v hv
  rintro⟨h1,h2⟩;refine⟨?_,fun v hv=>h2 v (List.mem_cons_of_mem _ hv)⟩
  rcases h1 with h|⟨v,hv,hn⟩
  ·exact .inl (.inr ⟨h,h2 u (by simp)⟩)
  rcases List.mem_cons.1 hv with rfl|hv
  ·exact .inl (.inl hn)
  exact .inr ⟨v,hv,hn⟩
theorem inOrder_playLv{n:Int}:∀(l:List Upd) {c:List Int} {lv:List Zk},Zn c n=0→Xf n c l=0→Bound c lv→Yx lv→Yx (playLv lv l)∧Bound (Ys c l) (playLv lv l)
 |[],_,_,_,_,hb,ho=>⟨ho,hb⟩
 |u::r,c,lv,hg,he,hb,ho=>by
  obtain⟨hw,hr⟩:=Vc he;obtain⟨g',-⟩:=Jr hg hw;obtain⟨h1,h2⟩:=apply_bound hg hw hb ho;exact inOrder_playLv r g' hr h1 h2

structure Tal where
 key:Int
 author:Int
 sum:Int
def Jb(a b:Tal):Prop:=a.key<b.key∨(a.key=b.key∧a.author<b.author)
def Ur(l:List Tal):Prop:=l.Pairwise Jb
def FullT(l:List Tal):Prop:=∀t ∈ l,t.sum≠0
def Qs:List Tal→Int→Int→Int
 |[],_,_=>0
 |t::r,k,a=>if t.key=k∧t.author=a then t.sum else Qs r k a
theorem getT_past{k a:Int}:∀{l:List Tal},(∀t ∈ l,k<t.key∨(k=t.key∧a<t.author))→Qs l k a=0
 |[],_=>rfl
 |t::r,h=>by
  have:=h t (by simp);rw[Qs,if_neg (by omega)];exact getT_past (fun t ht=>h t (List.mem_cons_of_mem _ ht))
theorem getT_head{t:Tal}{r:List Tal}(h:Ur (t::r)):Qs r t.key t.author=0:=by
 obtain⟨h1,-⟩:=List.pairwise_cons.1 h;exact getT_past (fun s hs=>h1 s hs)
theorem yZ:∀{l:List Tal},Ur l→FullT l→∀t,t ∈ l↔Qs l t.key t.author=t.sum∧t.sum≠0
 |[],_,_,t=>by simp[Qs];intro h;exact h.symm
 |s::r,ho,hf,t=>by
  obtain⟨h1,h2⟩:=List.pairwise_cons.1 ho;have hf2:FullT r:=fun x hx=>hf x (List.mem_cons_of_mem _ hx);have hz:=getT_head ho;rw[List.mem_cons,Qs]
  constructor
  ·rintro(rfl|hm)
   ·rw[if_pos ⟨rfl,rfl⟩];exact⟨rfl,hf t (by simp)⟩
   have:=h1 t hm;unfold Jb at this;rw[if_neg (by omega)]
   exact(yZ h2 hf2 t).1 hm
  rintro⟨h3,h4⟩
  split at h3
  ·next e=>
   obtain⟨sk,sa,ss⟩:=s;obtain⟨tk,ta,ts⟩:=t
   simp only at e h3 ⊢
   obtain⟨rfl,rfl⟩:=e;subst h3;exact .inl rfl
  exact .inr ((yZ h2 hf2 t).2 ⟨h3,h4⟩)
theorem ordT_ext:∀{a b:List Tal},Ur a→Ur b→(∀x,x ∈ a↔x ∈ b)→a=b
 |[],[],_,_,_=>rfl
 |[],y::b,_,_,h=>by have:=(h y).2 (by simp);simp at this
 |x::a,[],_,_,h=>by have:=(h x).1 (by simp);simp at this
 |x::a,y::b,ha,hb,h=>by
  obtain⟨ha1,ha2⟩:=List.pairwise_cons.1 ha;obtain⟨hb1,hb2⟩:=List.pairwise_cons.1 hb
  have hxy:x=y:=by
   rcases List.mem_cons.1 ((h x).1 (by simp))with e|e
   ·exact e
   rcases List.mem_cons.1 ((h y).2 (by simp))with e'|e'
   ·exact e'.symm
   have h3:=ha1 y e';have h4:=hb1 x e;unfold Jb at h3 h4;omega
  subst hxy;rw[ordT_ext (a:=a) (b:=b) ha2 hb2 (fun z=>?_)];have hirr:¬Jb x x:=by unfold Jb;omega
  constructor
  ·intro hz
   rcases List.mem_cons.1 ((h z).1 (List.mem_cons_of_mem _ hz))with e|e
   ·subst e;exact absurd (ha1 z hz) hirr
   exact e
  intro hz
  rcases List.mem_cons.1 ((h z).2 (List.mem_cons_of_mem _ hz))with e|e
  ·subst e;exact absurd (hb1 z hz) hirr
  exact e
def yP(k a d:Int):List Tal→List Tal
 |[]=>if d=0 then[]else[⟨k,a,d⟩]
 |t::r=>if t.key=k∧t.author=a then(if t.sum+d=0 then r else⟨k,a,t.sum+d⟩::r)
  else if k<t.key∨(k=t.key∧a<t.author)then(if d=0 then t::r else⟨k,a,d⟩::t::r)
  else t::yP k a d r
theorem mem_addT{k a d:Int}{x:Tal}:∀{l:List Tal},x ∈ yP k a d l→(x.key=k∧x.author=a)∨x ∈ l
 |[],h=>by
  unfold yP at h
  split at h
  ·simp at h
  simp at h;subst h;exact .inl ⟨rfl,rfl⟩
 |t::r,h=>by
  unfold yP at h
  split at h
  ·split at h
   ·exact .inr (List.mem_cons_of_mem _ h)
   rcases List.mem_cons.1 h with rfl|h
   ·exact .inl ⟨rfl,rfl⟩
   exact .inr (List.mem_cons_of_mem _ h)
  split at h
  ·split at h
   ·exact .inr h
   rcases List.mem_cons.1 h with rfl|h
   ·exact .inl ⟨rfl,rfl⟩
   exact .inr h
  rcases List.mem_cons.1 h with rfl|h
  ·exact .inr (by simp)
  rcases mem_addT h with h|h
  ·exact .inl h
  exact .inr (List.mem_cons_of_mem _ h)
theorem addT_ord{k a d:Int}:∀{l:List Tal},Ur l→FullT l→Ur (yP k a d l)∧FullT (yP k a d l)
 |[],_,_=>by
  unfold yP
  split
  ·exact⟨List.Pairwise.nil,fun t h=>by simp at h⟩
  next hd=>exact⟨by simp[Ur],fun t h=>by simp at h;subst h;exact hd⟩
 |t::r,ho,hf=>by
  obtain⟨h1,h2⟩:=List.pairwise_cons.1 ho;have hf2:FullT r:=fun x hx=>hf x (List.mem_cons_of_mem _ hx);unfold yP
  split
  ·next e=>
   split
   ·exact⟨h2,hf2⟩
   next hd=>
   refine⟨List.pairwise_cons.2 ⟨fun s hs=>?_,h2⟩,fun s hs=>?_⟩
   ·have:=h1 s hs;unfold Jb at this ⊢
    simp only
    omega
   rcases List.mem_cons.1 hs with rfl|hs
   ·exact hd
   exact hf2 s hs
  next e=>
  split
  ·next hc=>
   split
   ·exact⟨ho,hf⟩
   next hd=>
   refine⟨List.pairwise_cons.2 ⟨fun s hs=>?_,ho⟩,fun s hs=>?_⟩
   ·unfold Jb
    simp only
    rcases List.mem_cons.1 hs with rfl|hs
    ·exact hc
    have:=h1 s hs;unfold Jb at this;omega
   rcases List.mem_cons.1 hs with rfl|hs
   ·exact hd
   exact hf s hs
  next hc=>
  obtain⟨i1,i2⟩:=addT_ord (k:=k) (a:=a) (d:=d) h2 hf2;refine⟨List.pairwise_cons.2 ⟨fun s hs=>?_,i1⟩,fun s hs=>?_⟩
  ·rcases mem_addT hs with⟨e1,e2⟩|hs
   ·unfold Jb;omega
   exact h1 s hs
  rcases List.mem_cons.1 hs with rfl|hs
  ·exact hf s (by simp)
  exact i2 s hs
theorem getT_addT{k a d:Int}:∀{l:List Tal},Ur l→∀k' a',Qs (yP k a d l) k' a'=Qs l k' a'+if k'=k∧a'=a then d else 0
 |[],_,k',a'=>by
  unfold yP
  split
  ·next hd=>subst hd;simp[Qs]
  simp only[Qs]
  split
  ·next e=>rw[if_pos ⟨e.1.symm,e.2.symm⟩];omega
  next e=>rw[if_neg (fun h=>e ⟨h.1.symm,h.2.symm⟩)];rfl
 |t::r,ho,k',a'=>by
  obtain⟨h1,h2⟩:=List.pairwise_cons.1 ho;unfold yP
  split
  ·next e=>
   obtain⟨e1,e2⟩:=e;have hz:=getT_head ho
   split
   ·next hd=>
    rw[Qs]
    by_cases hk:k'=k∧a'=a
    ·obtain⟨rfl,rfl⟩:=hk;rw[if_pos ⟨e1,e2⟩,if_pos ⟨rfl,rfl⟩];rw[e1,e2]at hz;rw[hz];omega
    rw[if_neg hk,if_neg (fun h=>hk ⟨h.1.symm.trans e1,h.2.symm.trans e2⟩)];omega
   rw[Qs,Qs]
   by_cases hk:k'=k∧a'=a
   ·obtain⟨rfl,rfl⟩:=hk;rw[if_pos ⟨rfl,rfl⟩,if_pos ⟨e1,e2⟩,if_pos ⟨rfl,rfl⟩]
   rw[if_neg (fun h=>hk ⟨h.1.symm,h.2.symm⟩),if_neg (fun h=>hk ⟨h.1.symm.trans e1,h.2.symm.trans e2⟩),if_neg hk];omega
  next e=>
  split
  ·next hc=>
   split
   ·next hd=>subst hd;split <;> omega
   rw[Qs]
   simp only
   by_cases hk:k'=k∧a'=a
   ·obtain⟨rfl,rfl⟩:=hk
    have hz:Qs (t::r) k' a'=0:=getT_past (fun s hs=>by
     rcases List.mem_cons.1 hs with rfl|hs
     ·exact hc
     have:=h1 s hs;unfold Jb at this
     omega)
    rw[if_pos ⟨rfl,rfl⟩,if_pos ⟨rfl,rfl⟩,hz];omega
   rw[if_neg (fun h=>hk ⟨h.1.symm,h.2.symm⟩),if_neg hk];omega
  rw[Qs,Qs,getT_addT h2 k' a']
  split
  ·next e3=>
   have hk:¬(k'=k∧a'=a):=fun h=>e ⟨e3.1.trans h.1,e3.2.trans h.2⟩;rw[if_neg hk];omega
  rfl

def cntU(u:Upd)(k a:Int):Int:=if u.kind=5∧u.key=k∧u.author=a then u.item else 0
def Jt(ts:List Tal)(u:Upd):List Tal:=if u.kind=5 then yP u.key u.author u.item ts else ts
def playT:List Tal→List Upd→List Tal
 |ts,[]=>ts
 |ts,u::r=>playT (Jt ts u) r
def Qg:List Upd→Int→Int→Int
 |[],_,_=>0
 |u::r,k,a=>cntU u k a+Qg r k a
theorem applyT_all{ts:List Tal}{u:Upd}(ho:Ur ts)(hf:FullT ts):Ur (Jt ts u)∧FullT (Jt ts u)∧∀k a,Qs (Jt ts u) k a=Qs ts k a+cntU u k a:=by
 unfold Jt cntU
 split
 ·next h5=>
  obtain⟨h1,h2⟩:=addT_ord (k:=u.key) (a:=u.author) (d:=u.item) ho hf;refine⟨h1,h2,fun k a=>?_⟩;rw[getT_addT ho]
  by_cases hk:k=u.key∧a=u.author
  ·rw[if_pos hk,if_pos ⟨h5,hk.1.symm,hk.2.symm⟩]
  rw[if_neg hk,if_neg (fun h=>hk ⟨h.2.1.symm,h.2.2.symm⟩)]
 next h5=>
 refine⟨ho,hf,fun k a=>?_⟩;rw[if_neg (fun h=>h5 h.1)];omega
theorem playT_all:∀(l:List Upd) {ts:List Tal},Ur ts→FullT ts→Ur (playT ts l)∧FullT (playT ts l)∧∀k a,Qs (playT ts l) k a=Qs ts k a+Qg l k a
 |[],ts,ho,hf=>⟨ho,hf,fun k a=>by simp[playT,Qg]⟩
 |u::r,ts,ho,hf=>by
  obtain⟨h1,h2,h3⟩:=applyT_all (u:=u) ho hf;obtain⟨i1,i2,i3⟩:=playT_all r h1 h2;refine⟨i1,i2,fun k a=>?_⟩;rw[playT,i3,h3,Qg];omega
theorem wrongU_full{u:Upd}{n:Int}(h:Zz u n=0):Zn u.seen n=0∧0≤u.author∧u.author<n∧Uc u<1000∧0≤Uc u∧1≤u.kind∧u.kind≤5∧0≤u.key∧u.key≤15∧-1000≤u.item∧u.item≤1000:=by
 have hf:=xY h;unfold FitU at hf;unfold Uc at*
 rcases zY u n with⟨h1,h2⟩|⟨h0,h2⟩
 ·omega
 omega

def xU(n:Int)(x:Zk):Prop:=0≤x.author∧x.author<n∧1≤x.seq∧0≤x.key∧x.key≤15∧-1000≤x.item∧x.item≤1000
def yS(n:Int)(c:List Int)(t:Tal):Prop:=0≤t.author∧t.author<n∧0≤t.key∧t.key≤15∧t.sum≤1000*c.getD t.author.toNat 0∧-(1000*c.getD t.author.toNat 0)≤t.sum
structure OkS (n:Int) (c:List Int) (lv:List Zk) (ts:List Tal):Prop where
 clock:Zn c n=0
 lives:∀x ∈ lv,xU n x
 bound:Bound c lv
 order:Yx lv
 tals:∀t ∈ ts,yS n c t
 full:FullT ts
 ord:Ur ts

theorem getT_mem{ts:List Tal}(ho:Ur ts)(hf:FullT ts){k a:Int}(h:Qs ts k a≠0):(⟨k,a,Qs ts k a⟩:Tal) ∈ ts:=(yZ ho hf ⟨k,a,Qs ts k a⟩).2 ⟨rfl,h⟩

theorem OkS.apply{n:Int}{c:List Int}{lv:List Zk}{ts:List Tal}{u:Upd}(h:OkS n c lv ts)(hw:Yz u c n=0):OkS n (Ja c u.author) (Xl lv u) (Jt ts u):=by
 obtain⟨g',ht⟩:=Jr h.clock hw;obtain⟨hwu,hent,-⟩:=(Jo h.clock).1 hw;obtain⟨-,a1,a2,a3,a4,k1,k2,y1,y2,m1,m2⟩:=wrongU_full hwu;obtain⟨b1,b2⟩:=apply_bound h.clock hw h.bound h.order;obtain⟨t1,t2,t3⟩:=applyT_all (u:=u) h.ord h.full;refine⟨g',fun x hx=>?_,b1,b2,fun t htm=>?_,t2,t1⟩
 ·rcases yC.1 hx with hn|⟨hx,-⟩
  ·unfold xR at hn
   split at hn
   ·simp only[Option.some.injEq]at hn;subst hn;unfold xU
    simp only
    omega
   cases hn
  exact h.lives x hx
 obtain⟨e1,e2⟩:=(yZ t1 t2 t).1 htm;rw[t3]at e1;unfold yS;rw[ht]
 by_cases hz:Qs ts t.key t.author=0
 ·rw[hz]at e1;unfold cntU at e1
  split at e1
  ·next hc=>
   obtain⟨-,c1,c2⟩:=hc;rw[←c2]at*;rw[if_pos rfl,hent];omega
  omega
 have hm:=h.tals _ (getT_mem h.ord h.full hz);unfold yS at hm
 simp only at hm
 obtain⟨q1,q2,q3,q4,q5,q6⟩:=hm;unfold cntU at e1
 split at e1
 ·next hc=>
  obtain⟨-,c1,c2⟩:=hc;rw[if_pos (by rw[c2])];omega
 have:c.getD t.author.toNat 0≤if t.author.toNat=u.author.toNat then c.getD t.author.toNat 0+1 else c.getD t.author.toNat 0:=by split <;> omega
 omega
theorem OkS.play{n:Int}:∀(l:List Upd) {c:List Int} {lv:List Zk} {ts:List Tal},OkS n c lv ts→Xf n c l=0→OkS n (Ys c l) (playLv lv l) (playT ts l)
 |[],_,_,_,h,_=>h
 |u::r,c,lv,ts,h,he=>by
  obtain⟨hw,hr⟩:=Vc he;exact OkS.play r (h.apply hw) hr

end Go.Proofs.YtfhecilhcofboaaGreat
/- What is read of a state, and what one update that has seen all does to it. (Ahead of chapter 4's code: lists alone.) -/
namespace Go.Proofs.YtfhecilhcofboaaGreat
open Go.RowKit

section
variable {n:Int}{c:List Int}{lv:List Zk}{ts:List Tal}{u:Upd}
end

end Go.Proofs.YtfhecilhcofboaaGreat
/- Put together is played together: of two who played some updates of one log each. (Ahead of chapter 5's code: lists alone.) -/
namespace Go.Proofs.YtfhecilhcofboaaGreat
open Go.RowKit

def zeroC(n:Nat):List Int:=List.replicate n 0
section
variable {n:Int}{a b:List Int}{l:List Upd}
theorem join_good(ha:Zn a n=0)(hb:Zn b n=0):Zn (joinC a b) n=0:=by
 obtain⟨a1,a2,a3,a4⟩:=Zm.1 ha;obtain⟨-,-,b3,b4⟩:=Zm.1 hb;refine Zm.2 ⟨a1,a2,?_,fun i=>?_⟩
 ·rw[Oz];unfold Vq
  split <;> omega
 rw[Vl];have:=a4 i;have:=b4 i;unfold Vb
 split <;> omega
end
end Go.Proofs.YtfhecilhcofboaaGreat
