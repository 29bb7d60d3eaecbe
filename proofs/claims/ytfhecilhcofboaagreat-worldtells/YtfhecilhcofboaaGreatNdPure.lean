/- Nodes, as lists: what is wrong with one, and what comes of whatever it does. -/
import Derived.Test.YtfhecilhcofboaaGreatJoPure
import Derived.Test.YtfhecilhcofboaaGreatLacksPure
namespace Go.Proofs.YtfhecilhcofboaaGreat
open Go.RowKit

structure NdS where
 self:Int
 st:StS
 base:List Int
 log:List Upd
 known:List (List Int)
structure Pcl where
 whole:Bool
 st:StS
 ups:List Upd
 clock:List Int
def Yu:NdS:=⟨0,⟨[],[],[]⟩,[],[],[]⟩
def noPcl:Pcl:=⟨false,⟨[],[],[]⟩,[],[]⟩

def zR(f:Nat→Int):Nat→Nat→Int
 |_,0=>0
 |i,m+1=>if f i=0 then zR f (i+1) m else f i
theorem firstE_zero{f:Nat→Int}:∀(m i:Nat),zR f i m=0↔∀j,i≤j→j<i+m→f j=0
 |0,i=>⟨fun _ j h1 h2=>by omega,fun _=>rfl⟩
 |m+1,i=>by
  rw[zR]
  split
  ·next h=>
   rw[firstE_zero m (i+1)]
   constructor
   ·intro hh j h1 h2
    by_cases he:j=i
    ·rw[he];exact h
    exact hh j (by omega) (by omega)
   exact fun hh j h1 h2=>hh j (by omega) (by omega)
  next h=>exact⟨fun hh=>absurd hh h,fun hh=>absurd (hh i (nlr _) (by omega)) h⟩
def Qm(d:NdS)(i:Nat):Int:=
 if Zn (d.known.getD i []) d.st.clock.length=0 then
  if Ju d.st.clock (d.known.getD i [])=true then(if(i:Int)=d.self∧¬d.known.getD i []=d.st.clock then 7 else 0)else 7
 else Zn (d.known.getD i []) d.st.clock.length
def Vi(d:NdS):Int:=
 if stE d.st d.st.clock.length=0 then
  if 0≤d.self∧d.self<d.st.clock.length then
   if Xb d.base d.log d.st.clock.length=0 then
    if Vf d.base d.log d.st.clock.length=d.st.clock∧d.known.length=d.st.clock.length then zR (Qm d) 0 d.known.length else 7
   else Xb d.base d.log d.st.clock.length
  else 3
 else stE d.st d.st.clock.length

structure OkM (n:Int) (d:NdS):Prop where
 len:(d.st.clock.length:Int)=n
 st:OkS n d.st.clock d.st.lives d.st.tals
 s0:0≤d.self
 s1:d.self<n
 base:Zn d.base n=0
 few:d.log.length≤300
 fits:Xf n d.base d.log=0
 come:Ys d.base d.log=d.st.clock
 kl:(d.known.length:Int)=n
 kg:∀i,i<d.known.length→Zn (d.known.getD i []) n=0∧∀j,(d.known.getD i []).getD j 0≤d.st.clock.getD j 0
structure OkN (n:Int) (d:NdS):Prop extends OkM n d where
 ks:d.known.getD d.self.toNat []=d.st.clock

theorem Vk{d:NdS}:Vi d=0↔OkN d.st.clock.length d:=by
 unfold Vi
 constructor
 ·intro h
  split at h
  ·next h1=>
   split at h
   ·next h2=>
    split at h
    ·next h3=>
     split at h
     ·next h4=>
      have hf:=(firstE_zero _ _).1 h;obtain⟨c1,c2,c3⟩:=clockE_ok.1 h3;have hc:=(clock_ok h3).1;refine⟨⟨rfl,Qw.1 h1,h2.1,h2.2,c1,c2,c3,by rw[←hc];exact h4.1,by omega,fun i hi=>?_⟩,?_⟩
      ·have:=hf i (Nat.zero_le _) (by omega);unfold Qm at this
       split at this
       ·next k1=>
        split at this
        ·next k2=>exact⟨k1,Qa.1 k2⟩
        cases this
       next k1=>exact absurd this k1
      have:=hf d.self.toNat (Nat.zero_le _) (by omega);unfold Qm at this
      split at this
      ·split at this
       ·split at this
        ·cases this
        next k3=>
        by_cases he:d.known.getD d.self.toNat []=d.st.clock
        ·exact he
        exact absurd ⟨by omega,he⟩ k3
       cases this
      next k1=>exact absurd this k1
     cases h
    next h3=>exact absurd h h3
   cases h
  next h1=>exact absurd h h1
 intro h;have h3:Xb d.base d.log d.st.clock.length=0:=clockE_ok.2 ⟨h.base,h.few,h.fits⟩;rw[if_pos (Qw.2 h.st),if_pos ⟨h.s0,h.s1⟩,if_pos h3,if_pos ⟨by rw[(clock_ok h3).1];exact h.come,by have:=h.kl;omega⟩,firstE_zero];intro j _ hj;obtain⟨k1,k2⟩:=h.kg j (by omega);unfold Qm;rw[if_pos k1,if_pos (Qa.2 k2),if_neg];rintro⟨e1,e2⟩;refine e2 ?_;rw[←h.ks,←e1];rfl

def Jj(d:NdS)(who:Int):Int:=if Vi d=0 then(if 0≤who∧who<d.st.clock.length then(if who=d.self then 7 else 0)else 6)else Vi d
def ownU(d:NdS)(u:Upd):Upd:=⟨d.self,d.st.clock,u.kind,u.key,u.item⟩
def Qi(d:NdS)(u:Upd):Int:=if 300≤d.log.length then 5 else Ol d.st [u]
def zL(d:NdS)(u:Upd):NdS:=⟨d.self,yB d.st [u],d.base,d.log++[u],d.known⟩
def selfN(d:NdS):NdS:=⟨d.self,d.st,d.base,d.log,d.known.set d.self.toNat d.st.clock⟩
def Ob(d:NdS)(u:Upd):Int:=if Vi d=0 then Qi d (ownU d u)else Vi d
def Ou(d:NdS)(u:Upd):NdS:=if Ob d u=0 then selfN (zL d (ownU d u))else Yu
def sendX(d:NdS)(k:Int):Pcl:=
 if Jj d k=0 then(if Ju (d.known.getD k.toNat []) d.base=true then⟨false,⟨[],[],[]⟩,Yc d.log (d.known.getD k.toNat []),d.st.clock⟩else⟨true,d.st,[],d.st.clock⟩)else noPcl
def Qp(d:NdS)(c:List Int):NdS:=⟨d.self,d.st,joinC d.base c,Yc d.log (joinC d.base c),d.known⟩
def tstE(d:NdS)(p:Pcl):Int:=if p.whole=true then xA d.st p.st else 0
def yL(d:NdS)(p:Pcl):NdS:=if p.whole=true then Qp ⟨d.self,joinX d.st p.st,d.base,d.log,d.known⟩ p.st.clock else d
def skipB(d:NdS)(u:Upd):Bool:=decide (Zz u d.st.clock.length=0)&&Xu u d.st.clock
def tuE(d:NdS)(u:Upd):Int:=if skipB d u=true then 0 else Qi d u
def tuX(d:NdS)(u:Upd):NdS:=if skipB d u=true then d else zL d u
def upsE:NdS→List Upd→Int
 |_,[]=>0
 |d,u::r=>if tuE d u=0 then upsE (tuX d u) r else tuE d u
def yQ(d:NdS)(l:List Upd):NdS:=l.foldl tuX d
def tellN(d:NdS)(i:Int)(c:List Int):NdS:=⟨d.self,d.st,d.base,d.log,d.known.set i.toNat (joinC (d.known.getD i.toNat []) c)⟩
def Un(d:NdS)(i:Int)(p:Pcl):Int:=
 if Jj d i=0 then
  if Zn p.clock d.st.clock.length=0 then
   if tstE d p=0 then
    if upsE (yL d p) p.ups=0 then(if Ju (yQ (yL d p) p.ups).st.clock p.clock=true then 0 else 8)else upsE (yL d p) p.ups
   else tstE d p
  else Zn p.clock d.st.clock.length
 else Jj d i
def takeX(d:NdS)(i:Int)(p:Pcl):NdS:=if Un d i p=0 then selfN (tellN (yQ (yL d p) p.ups) i p.clock)else Yu
def allC(d:NdS):List Int:=d.known.foldl Vt d.st.clock
def yM(d:NdS):NdS:=if Vi d=0 then Qp d (allC d)else Yu

section
variable {n:Int}{d:NdS}
theorem joinI_le{x y:Int}:x≤Vb x y∧y≤Vb x y:=by unfold Vb;split <;> omega
theorem lacks_fits{cs:List Int}(hc:Zn cs n=0):∀(l:List Upd) {xs ds:List Int},Zn xs n=0→Zn ds n=0→Xf n xs l=0→(∀i,ds.getD i 0=Vb (cs.getD i 0) (xs.getD i 0))→Xf n ds (Yc l cs)=0
 |[],_,_,_,_,_,_=>rfl
 |u::r,xs,ds,hg,hd,he,h=>by
  obtain⟨hw,hr⟩:=Vc he;obtain⟨hg',ht⟩:=Jr hg hw;obtain⟨hwu,hent,hsee⟩:=(Jo hg).1 hw;obtain⟨-,-,c3,-⟩:=Zm.1 hc;have hs:=yW hwu c3
  by_cases hsu:Xu u cs=true
  ·have e:Yc (u::r) cs=Yc r cs:=by unfold Yc;rw[List.filter_cons,hsu];simp
   rw[e];refine lacks_fits hc r hg' hd hr fun i=>?_;rw[h i,ht i];have:=hs.1 hsu
   split
   ·next e=>rw[e,hent];unfold Vb;split <;> split <;> omega
   rfl
  have e:Yc (u::r) cs=u::Yc r cs:=by unfold Yc;rw[List.filter_cons];simp[hsu]
  have hlt:¬Uc u+1≤cs.getD u.author.toNat 0:=fun hh=>hsu (hs.2 hh)
  have hfit:Yz u ds n=0:=by
   refine(Jo hd).2 ⟨hwu,?_,fun i=>?_⟩
   ·rw[h,hent];unfold Vb;split <;> omega
   rw[h];exact Int.le_trans (hsee i) joinI_le.2
  obtain⟨hd',htd⟩:=Jr hd hfit;rw[e,Xf,if_pos hfit];refine lacks_fits hc r hg' hd' hr fun i=>?_;rw[htd i,ht i,h i]
  split
  ·next e=>rw[e,hent];unfold Vb;split <;> split <;> omega
  rfl
theorem lacks_few{l:List Upd}{cs:List Int}:(Yc l cs).length≤l.length:=List.length_filter_le _ _
theorem forget_log{b c cl:List Int}{l:List Upd}(hb:Zn b n=0)(hc:Zn c n=0)(hf:Xf n b l=0)(ht:Ys b l=cl):
  Zn (joinC b c) n=0∧Xf n (joinC b c) (Yc l (joinC b c))=0∧Ys (joinC b c) (Yc l (joinC b c))=joinC cl c:=by
 have hj:=join_good hb hc
 have hd:∀i,(joinC b c).getD i 0=Vb ((joinC b c).getD i 0) (b.getD i 0):=by
  intro i;rw[Vl];unfold Vb
  split <;> split <;> omega
 have h1:=lacks_fits hj l hb hj hf hd;refine⟨hj,h1,?_⟩;obtain⟨t1,t2⟩:=xK l hb hf;obtain⟨t3,-⟩:=xK _ hj h1;rw[ht]at t1;obtain⟨-,-,l1,-⟩:=Zm.1 t3;obtain⟨-,-,l2,-⟩:=Zm.1 (join_good t1 hc);refine eq_getD (by omega) fun i=>?_;rw[lacks_join hj l hb hf rfl hd i,ht,Vl,Vl];have:=t2 i;rw[ht]at this;unfold Vb
 split <;> split <;> split <;> omega

theorem joinX_ok{a b:StS}(ha:OkS n a.clock a.lives a.tals)(hb:OkS n b.clock b.lives b.tals):OkS n (joinC a.clock b.clock) (Xr ltL (zK a b)) (Xr ltT (zJ a b)):=by
 have hj:=join_good ha.clock hb.clock;obtain⟨-,-,a3,a4⟩:=Zm.1 ha.clock;obtain⟨-,-,b3,b4⟩:=Zm.1 hb.clock;obtain⟨-,-,j3,-⟩:=Zm.1 hj
 have hmem:∀x ∈ Xr ltL (zK a b),x ∈ a.lives∨x ∈ b.lives:=by
  intro x hx
  rcases(mem_rawL ha hb x).1 (Qz.1 hx)with h|h|h
  ·exact .inl h.1
  ·exact .inl h.1
  exact .inr h.1
 have hmemT:∀t ∈ Xr ltT (zJ a b),(t ∈ a.tals∧¬a.clock.getD t.author.toNat 0<b.clock.getD t.author.toNat 0)∨(t ∈ b.tals∧a.clock.getD t.author.toNat 0<b.clock.getD t.author.toNat 0):=fun t ht=>mem_rawT.1 (Qz.1 ht);refine⟨hj,fun x hx=>?_,fun x hx=>?_,?_,fun t ht=>?_,fun t ht=>?_,?_⟩
 ·rcases hmem x hx with h|h
  ·exact ha.lives x h
  exact hb.lives x h
 ·rw[Vl]
  rcases hmem x hx with h|h
  ·obtain⟨h1,h2,h3⟩:=ha.bound x h;exact⟨h1,by omega,Int.le_trans h3 joinI_le.1⟩
  obtain⟨h1,h2,h3⟩:=hb.bound x h;exact⟨h1,by omega,Int.le_trans h3 joinI_le.2⟩
 ·exact Vs (fun _ _ _ _ h=>Ql.1 h) (Qx ltL_tr (rawL_pair ha hb))
 ·rcases hmemT t ht with⟨h,hlt⟩|⟨h,hlt⟩
  ·obtain⟨h1,h2,h3,h4,h5,h6⟩:=ha.tals t h
   refine⟨h1,h2,h3,h4,?_,?_⟩ <;> rw[Vl] <;> unfold Vb <;> split <;> omega
  obtain⟨h1,h2,h3,h4,h5,h6⟩:=hb.tals t h
  refine⟨h1,h2,h3,h4,?_,?_⟩ <;> rw[Vl] <;> unfold Vb <;> split <;> omega
 ·rcases hmemT t ht with⟨h,-⟩|⟨h,-⟩
  ·exact ha.full t h
  exact hb.full t h
 exact Vs (fun _ _ _ _ h=>Oy.1 h) (Qx ltT_tr (rawT_pair ha hb))

theorem playN_zero(h:OkM n d){u:Upd}:Qi d u=0↔d.log.length<300∧Yz u d.st.clock n=0:=by
 unfold Qi;have hl:=h.len
 split
 ·next h1=>exact⟨fun h=>(by cases h),fun h=>(by omega)⟩
 next h1=>
 rw[playE_iff,hl]
 constructor
 ·rintro⟨-,-,h3⟩;exact⟨by omega,(Vc h3).1⟩
 rintro⟨h2,h3⟩;exact⟨h.st,by simp,by rw[Xf,if_pos h3];rfl⟩
theorem playX_one(h:OkM n d){u:Upd}(hu:Yz u d.st.clock n=0):yB d.st [u]=⟨Ja d.st.clock u.author,Xl d.st.lives u,Jt d.st.tals u⟩:=by
 have:Ol d.st [u]=0:=playE_iff.2 ⟨by rw[h.len];exact h.st,by simp,by rw[h.len,Xf,if_pos hu];rfl⟩;unfold yB;rw[if_pos this];rfl
theorem errL_snoc{u:Upd}:∀(l:List Upd) {xs:List Int},Xf n xs l=0→Yz u (Ys xs l) n=0→Xf n xs (l++[u])=0
 |[],xs,_,h=>by rw[List.nil_append,Xf,if_pos (show Yz u xs n=0 from h)];rfl
 |v::r,xs,he,h=>by
  obtain⟨h1,h2⟩:=Vc he;rw[List.cons_append,Xf,if_pos h1];exact errL_snoc r h2 h
theorem tickL_snoc{u:Upd}:∀(l:List Upd) (xs:List Int),Ys xs (l++[u])=Ja (Ys xs l) u.author
 |[],xs=>rfl
 |v::r,xs=>by rw[List.cons_append,Ys,Ys];exact tickL_snoc r _
theorem OkM.play(h:OkM n d){u:Upd}(hu:Qi d u=0):OkM n (zL d u)∧(zL d u).st.clock=Ja d.st.clock u.author∧(∀i,d.st.clock.getD i 0≤(zL d u).st.clock.getD i 0)∧Zz u n=0∧Xu u (zL d u).st.clock=true:=by
 obtain⟨h1,h2⟩:=(playN_zero h).1 hu;have hX:=playX_one h h2;have hc:(zL d u).st.clock=Ja d.st.clock u.author:=by unfold zL;rw[hX]
 obtain⟨t1,t2⟩:=Jr h.st.clock h2;obtain⟨w1,w2,-⟩:=(Jo h.st.clock).1 h2;obtain⟨-,-,t3,-⟩:=Zm.1 t1
 have hle:∀i,d.st.clock.getD i 0≤(Ja d.st.clock u.author).getD i 0:=by
  intro i;rw[t2 i]
  split <;> omega
 refine⟨⟨by rw[hc,Jg];exact h.len,?_,h.s0,h.s1,h.base,?_,?_,?_,h.kl,?_⟩,hc,by rw[hc];exact hle,w1,?_⟩
 ·unfold zL;rw[hX];exact h.st.apply h2
 ·show(d.log++[u]).length≤300
  simp
  omega
 ·show Xf n d.base (d.log++[u])=0
  exact errL_snoc _ h.fits (by rw[h.come];exact h2)
 ·rw[hc]
  show Ys d.base (d.log++[u])=_
  rw[tickL_snoc,h.come]
 ·intro i hi;obtain⟨k1,k2⟩:=h.kg i hi;refine⟨k1,fun j=>?_⟩;rw[hc];exact Int.le_trans (k2 j) (hle j)
 rw[hc,yW w1 (by rw[Jg];exact h.len),t2,if_pos rfl,w2];exact Int.le_refl _
theorem getD_set{α:Type}{l:List α}{i j:Nat}{x e:α}(hi:i<l.length):(l.set i x).getD j e=if j=i then x else l.getD j e:=by
 rw[List.getD_eq_getElem?_getD,List.getElem?_set,List.getD_eq_getElem?_getD]
 by_cases h:i=j
 ·subst h;simp[hi]
 rw[if_neg h,if_neg (fun e=>h e.symm)]
theorem OkM.self(h:OkM n d):OkN n (selfN d):=by
 have hs:d.self.toNat<d.known.length:=by have:=h.kl;have:=h.s0;have:=h.s1;omega
 refine⟨⟨h.len,h.st,h.s0,h.s1,h.base,h.few,h.fits,h.come,by show((d.known.set d.self.toNat d.st.clock).length:Int)=n;rw[List.length_set];exact h.kl,fun i hi=>?_⟩,?_⟩
 ·have hi':i<d.known.length:=by have:i<(d.known.set d.self.toNat d.st.clock).length:=hi;rw[List.length_set]at this;exact this
  show Zn ((d.known.set d.self.toNat d.st.clock).getD i []) n=0∧∀j,((d.known.set d.self.toNat d.st.clock).getD i []).getD j 0≤d.st.clock.getD j 0
  rw[getD_set hs]
  split
  ·exact⟨h.st.clock,fun j=>Int.le_refl _⟩
  exact h.kg i hi'
 show(d.known.set d.self.toNat d.st.clock).getD d.self.toNat []=d.st.clock
 rw[getD_set hs,if_pos rfl]
theorem OkM.forget(h:OkM n d){c:List Int}(hc:Zn c n=0)(hs:∀j,c.getD j 0≤d.st.clock.getD j 0):OkM n (Qp d c):=by
 obtain⟨f1,f2,f3⟩:=forget_log h.base hc h.fits h.come;refine⟨h.len,h.st,h.s0,h.s1,f1,Nat.le_trans lacks_few h.few,f2,?_,h.kl,h.kg⟩
 show Ys (joinC d.base c) (Yc d.log (joinC d.base c))=d.st.clock
 obtain⟨-,-,l1,-⟩:=Zm.1 (join_good h.st.clock hc);have:=h.len;rw[f3];refine eq_getD (by omega) fun i=>?_;rw[Vl];have:=hs i;unfold Vb;rw[if_neg (by omega)]
theorem OkM.tst(h:OkM n d){p:Pcl}(hp:tstE d p=0):OkM n (yL d p)∧(∀i,d.st.clock.getD i 0≤(yL d p).st.clock.getD i 0)∧(∀i,d.base.getD i 0≤(yL d p).base.getD i 0)∧(yL d p).self=d.self∧(yL d p).known=d.known:=by
 unfold tstE at hp;unfold yL
 split at hp
 ·next hw=>
  rw[if_pos hw];obtain⟨ja,jb⟩:=joinE_zero.1 hp;rw[h.len]at ja jb;obtain⟨f1,f2,f3⟩:=forget_log h.base jb.clock h.fits h.come;have hX:=joinX_zero hp;have hk:=joinX_ok ja jb;obtain⟨-,-,l1,-⟩:=Zm.1 hk.clock;have hc:(Qp ⟨d.self,joinX d.st p.st,d.base,d.log,d.known⟩ p.st.clock).st.clock=joinC d.st.clock p.st.clock:=by unfold Qp;rw[hX]
  have hle:∀i,d.st.clock.getD i 0≤(joinC d.st.clock p.st.clock).getD i 0:=fun i=>by rw[Vl];exact joinI_le.1
  refine⟨⟨by rw[hc];exact l1,?_,h.s0,h.s1,f1,Nat.le_trans lacks_few h.few,f2,?_,h.kl,fun i hi=>?_⟩,by rw[hc];exact hle,fun i=>?_,rfl,rfl⟩
  ·unfold Qp;rw[hX];exact hk
  ·rw[hc];exact f3
  ·obtain⟨k1,k2⟩:=h.kg i hi;refine⟨k1,fun j=>?_⟩;rw[hc];exact Int.le_trans (k2 j) (hle j)
  show d.base.getD i 0≤(joinC d.base p.st.clock).getD i 0
  rw[Vl];exact joinI_le.1
 next hw=>
 rw[if_neg hw];exact⟨h,fun _=>Int.le_refl _,fun _=>Int.le_refl _,rfl,rfl⟩
theorem skipB_iff(h:OkM n d){u:Upd}:skipB d u=true↔Zz u n=0∧Xu u d.st.clock=true:=by
 unfold skipB;rw[h.len]
 simp
theorem seenU_more{u:Upd}{cs ds:List Int}(hw:Zz u n=0)(hc:(cs.length:Int)=n)(hd:(ds.length:Int)=n)(hle:∀i,cs.getD i 0≤ds.getD i 0)(h:Xu u cs=true):Xu u ds=true:=by
 rw[yW hw hd];exact Int.le_trans ((yW hw hc).1 h) (hle _)
theorem OkM.tu(h:OkM n d){u:Upd}(hu:tuE d u=0):OkM n (tuX d u)∧(∀i,d.st.clock.getD i 0≤(tuX d u).st.clock.getD i 0)∧(tuX d u).base=d.base∧(tuX d u).self=d.self∧(tuX d u).known=d.known∧Zz u n=0∧Xu u (tuX d u).st.clock=true:=by
 unfold tuE at hu;unfold tuX
 split at hu
 ·next hs=>
  rw[if_pos hs];obtain⟨h1,h2⟩:=(skipB_iff h).1 hs;exact⟨h,fun _=>Int.le_refl _,rfl,rfl,rfl,h1,h2⟩
 next hs=>
 rw[if_neg hs];obtain⟨h1,-,h3,h4,h5⟩:=h.play hu;exact⟨h1,h3,rfl,rfl,rfl,h4,h5⟩
theorem OkM.ups:∀(l:List Upd) {d:NdS},OkM n d→upsE d l=0→OkM n (yQ d l)∧(∀i,d.st.clock.getD i 0≤(yQ d l).st.clock.getD i 0)∧(yQ d l).base=d.base∧(yQ d l).self=d.self∧(yQ d l).known=d.known∧∀u ∈ l,Zz u n=0∧Xu u (yQ d l).st.clock=true
 |[],d,h,_=>⟨h,fun _=>Int.le_refl _,rfl,rfl,rfl,fun u hu=>by simp at hu⟩
 |u::r,d,h,he=>by
  rw[upsE]at he
  split at he
  ·next hu=>
   obtain⟨h1,h2,h3,h4,h5,h6,h7⟩:=h.tu hu;obtain⟨k1,k2,k3,k4,k5,k6⟩:=OkM.ups r h1 he;have e:yQ d (u::r)=yQ (tuX d u) r:=rfl;rw[e];refine⟨k1,fun i=>Int.le_trans (h2 i) (k2 i),by rw[k3,h3],by rw[k4,h4],by rw[k5,h5],fun v hv=>?_⟩
   rcases List.mem_cons.1 hv with rfl|hv
   ·exact⟨h6,seenU_more h6 h1.len k1.len k2 h7⟩
   exact k6 v hv
  next hu=>exact absurd he hu
theorem xP{i:Int}:Jj d i=0↔OkN d.st.clock.length d∧0≤i∧i<d.st.clock.length∧i≠d.self:=by
 unfold Jj;rw[←Vk]
 constructor
 ·intro h
  split at h
  ·next h1=>
   split at h
   ·next h2=>
    split at h
    ·cases h
    next h3=>exact⟨h1,h2.1,h2.2,h3⟩
   cases h
  next h1=>exact absurd h h1
 rintro⟨h1,h2,h3,h4⟩;rw[if_pos h1,if_pos ⟨h2,h3⟩,if_neg h4]
structure Took (d:NdS) (i:Int) (p:Pcl):Prop where
 ok:OkN d.st.clock.length d
 i0:0≤i
 i1:i<d.st.clock.length
 no:i≠d.self
 pc:Zn p.clock d.st.clock.length=0
 tst:tstE d p=0
 ups:upsE (yL d p) p.ups=0
 sees:∀j,p.clock.getD j 0≤(yQ (yL d p) p.ups).st.clock.getD j 0
theorem take_zero{i:Int}{p:Pcl}:Un d i p=0↔Took d i p:=by
 unfold Un
 constructor
 ·intro h
  split at h
  ·next h1=>
   obtain⟨o1,o2,o3,o4⟩:=xP.1 h1
   split at h
   ·next h2=>
    split at h
    ·next h3=>
     split at h
     ·next h4=>
      split at h
      ·next h5=>exact⟨o1,o2,o3,o4,h2,h3,h4,Qa.1 h5⟩
      cases h
     next h4=>exact absurd h h4
    next h3=>exact absurd h h3
   next h2=>exact absurd h h2
  next h1=>exact absurd h h1
 intro h;rw[if_pos (xP.2 ⟨h.ok,h.i0,h.i1,h.no⟩),if_pos h.pc,if_pos h.tst,if_pos h.ups,if_pos (Qa.2 h.sees)]
theorem Took.len{i:Int}{p:Pcl}(h:Took d i p):(yQ (yL d p) p.ups).st.clock.length=d.st.clock.length:=by
 obtain⟨a1,-⟩:=h.ok.toOkM.tst h.tst;obtain⟨b1,-⟩:=OkM.ups p.ups a1 h.ups;have:=b1.len;omega
theorem meet_good{a b:List Int}(ha:Zn a n=0)(hb:Zn b n=0):Zn (Vt a b) n=0∧∀i,(Vt a b).getD i 0≤a.getD i 0:=by
 obtain⟨a1,a2,a3,a4⟩:=Zm.1 ha;obtain⟨-,-,b3,b4⟩:=Zm.1 hb;refine⟨Zm.2 ⟨a1,a2,?_,fun i=>?_⟩,fun i=>?_⟩
 ·rw[Ox];unfold Vq
  split <;> omega
 ·rw[meetC_getD];have:=a4 i;have:=b4 i;unfold On
  split <;> omega
 rw[meetC_getD];unfold On
 split <;> omega
theorem meets_good:∀(l:List (List Int)) {c:List Int},Zn c n=0→(∀k ∈ l,Zn k n=0)→Zn (l.foldl Vt c) n=0∧∀i,(l.foldl Vt c).getD i 0≤c.getD i 0
 |[],c,h,_=>⟨h,fun _=>Int.le_refl _⟩
 |k::r,c,h,hl=>by
  obtain⟨h1,h2⟩:=meet_good h (hl k (by simp));obtain⟨h3,h4⟩:=meets_good r h1 fun x hx=>hl x (by simp[hx]);exact⟨h3,fun i=>Int.le_trans (h4 i) (h2 i)⟩
theorem OkM.all(h:OkM n d):Zn (allC d) n=0∧∀i,(allC d).getD i 0≤d.st.clock.getD i 0:=by
 refine meets_good d.known h.st.clock fun k hk=>?_;obtain⟨i,hi,rfl⟩:=List.getElem_of_mem hk;have:=(h.kg i hi).1;rw[List.getD_eq_getElem?_getD,List.getElem?_eq_getElem hi]at this;exact this
end
end Go.Proofs.YtfhecilhcofboaaGreat
/- A node that has seen nothing, as lists. -/
namespace Go.Proofs.YtfhecilhcofboaaGreat
open Go.RowKit

def zH(self n:Int):Int:=if 1≤n∧n≤6 then(if 0≤self∧self<n then 0 else 3)else 5
def Uu(self n:Int):NdS:=if zH self n=0 then⟨self,⟨zeroC n.toNat,[],[]⟩,zeroC n.toNat,[],List.replicate n.toNat (zeroC n.toNat)⟩else Yu
end Go.Proofs.YtfhecilhcofboaaGreat
