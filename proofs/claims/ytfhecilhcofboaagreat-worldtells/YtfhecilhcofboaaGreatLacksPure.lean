/- Logs as lists: what fits, what a clock comes to, one part behind the other, who lacks what. -/
import Derived.Test.YtfhecilhcofboaaGreatLogC
import Derived.Test.YtfhecilhcofboaaGreatMix
namespace Go.Proofs.YtfhecilhcofboaaGreat
open Go.RowKit

theorem Zm{xs:List Int}{n:Int}:Zn xs n=0↔1≤n∧n≤6∧(xs.length:Int)=n∧∀i,0≤xs.getD i 0∧xs.getD i 0≤1000:=by
 constructor
 ·intro h;obtain⟨h1,h2,h3,h4⟩:=Yq h;refine⟨h1,h2,h3,fun i=>?_⟩
  by_cases hi:i<xs.length
  ·exact h4 i hi
  rw[Qc (by omega)];omega
 rintro⟨h1,h2,h3,h4⟩;unfold Zn;rw[if_neg (by omega),if_pos];rw[List.all_eq_true];intro x hx;obtain⟨i,hi,rfl⟩:=List.getElem_of_mem hx;have:=h4 i;rw[Ui hi]at this
 simpa[xC]using this
theorem getD_setL{xs:List Int}{k i:Nat}{y:Int}(hk:k<xs.length):(xs.set k y).getD i 0=if i=k then y else xs.getD i 0:=by
 by_cases e:i=k
 ·subst e;simp[List.getD,hk]
 rw[if_neg e];simp[List.getD,Ne.symm e]
theorem tickC_getD{xs:List Int}{a:Int}(h0:0≤a)(h1:a<xs.length)(hb:0≤xs.getD a.toNat 0∧xs.getD a.toNat 0≤1000)(i:Nat):(Ja xs a).getD i 0=if i=a.toNat then xs.getD i 0+1 else xs.getD i 0:=by
 unfold Ja;rw[if_pos ⟨h0,h1⟩,IntWalk.wrap64_in _ (by omega),getD_setL (by omega)]
 split
 ·next e=>rw[e]
 rfl

theorem Jo{u:Upd}{xs:List Int}{n:Int}(hg:Zn xs n=0):
  Yz u xs n=0↔Zz u n=0∧xs.getD u.author.toNat 0=Uc u∧∀i,u.seen.getD i 0≤xs.getD i 0:=by
 obtain⟨g1,g2,g3,g4⟩:=Zm.1 hg;unfold Yz
 by_cases hw:Zz u n=0
 ·rw[if_pos hw];obtain⟨hcc,h1,h2,h3⟩:=Xj hw;obtain⟨-,-,s3,s4⟩:=Zm.1 hcc;unfold Qk
  have hseen:Xu u xs=true↔Uc u+1≤xs.getD u.author.toNat 0:=by
   unfold Xu Vy;rw[decide_eq_true_iff]
   constructor
   ·exact fun h=>h.2.2
   exact fun h=>⟨h1,by omega,h⟩
  constructor
  ·intro h
   split at h
   ·cases h
   next hs=>
   split at h
   ·next hv=>
    rw[Qa]at hv;refine⟨hw,?_,hv⟩;have:=hv u.author.toNat;rw[hseen]at hs;unfold Uc at hs ⊢;omega
   cases h
  rintro⟨-,h5,h6⟩;rw[if_neg (by rw[hseen];omega),if_pos (Qa.2 h6)]
 rw[if_neg hw];exact⟨fun h=>absurd h hw,fun h=>absurd h.1 hw⟩
theorem Jr{u:Upd}{xs:List Int}{n:Int}(hg:Zn xs n=0)(h:Yz u xs n=0):
  Zn (Ja xs u.author) n=0∧∀i,(Ja xs u.author).getD i 0=if i=u.author.toNat then xs.getD i 0+1 else xs.getD i 0:=by
 obtain⟨g1,g2,g3,g4⟩:=Zm.1 hg;obtain⟨hw,h5,-⟩:=(Jo hg).1 h;obtain⟨hcc,h1,h2,h3⟩:=Xj hw;have ht:=tickC_getD h1 (by omega) (g4 u.author.toNat);refine⟨Zm.2 ⟨g1,g2,by rw[Jg];exact g3,fun i=>?_⟩,ht⟩;rw[ht i];have:=g4 i
 split
 ·next e=>
  unfold Uc at h5;subst e;omega
 omega
theorem Vc{n:Int}{u:Upd}{r:List Upd}{xs:List Int}(h:Xf n xs (u::r)=0):Yz u xs n=0∧Xf n (Ja xs u.author) r=0:=by
 rw[Xf]at h
 split at h
 ·next hw=>exact⟨hw,h⟩
 next hw=>exact absurd h hw
theorem xK{n:Int}:∀(l:List Upd) {xs:List Int},Zn xs n=0→Xf n xs l=0→Zn (Ys xs l) n=0∧∀i,xs.getD i 0≤(Ys xs l).getD i 0
 |[],xs,hg,_=>⟨hg,fun _=>Int.le_refl _⟩
 |u::r,xs,hg,h=>by
  obtain⟨hw,hr⟩:=Vc h;obtain⟨hg',ht⟩:=Jr hg hw;obtain⟨h1,h2⟩:=xK r hg' hr;refine⟨h1,fun i=>?_⟩;rw[Ys];have:=h2 i;rw[ht i]at this
  split at this <;> omega
theorem clockE_ok{xs:List Int}{l:List Upd}{n:Int}:Xb xs l n=0↔Zn xs n=0∧l.length≤300∧Xf n xs l=0:=by
 unfold Xb
 split
 ·next h=>exact⟨fun e=>absurd e h,fun e=>absurd e.1 h⟩
 next h=>
 simp only[ne_eq,Classical.not_not]at h
 split
 ·exact⟨fun e=>absurd e (by decide),fun e=>by omega⟩
 exact⟨fun e=>⟨h,by omega,e⟩,fun e=>e.2.2⟩
theorem clock_ok{xs:List Int}{l:List Upd}{n:Int}(h:Xb xs l n=0):Vf xs l n=Ys xs l∧Vg xs l n=0:=by
 obtain⟨h1,h2,h3⟩:=clockE_ok.1 h;refine⟨by rw[Vf,if_pos h],?_⟩;unfold Vg;rw[if_neg (by omega),if_neg (by omega),if_pos h3]

theorem addr_addL(b off j:Nat):(⟨b,off,none⟩:Addr).add j=⟨b,off+j,none⟩:=by
 simp only[Addr.add]
 split
 ·next e=>rw[e];rfl
 rfl
theorem Vh.take{w:World}{a:Option Addr}{c k m:Nat}{l:List Upd}(h:Vh w (.slice a m c) l)(hk:k≤l.length):Vh w (.slice a k c) (l.take k):=by
 obtain⟨a2,c2,hv,h1,h2,h3⟩:=h;simp only[Value.slice.injEq]at hv;obtain⟨rfl,rfl,rfl⟩:=hv;have hl:(l.take k).length=k:=by rw[List.length_take];omega
 refine⟨a,c,by rw[hl],by omega,h2,fun i u hi=>?_⟩;rw[List.getElem?_take]at hi
 split at hi
 ·exact h3 i u hi
 cases hi
theorem Vh.dropA{w:World}{a:Option Addr}{c k m:Nat}{l:List Upd}(h:Vh w (.slice a m c) l)(hk:k≤l.length):Vh w (.slice (Option.map (fun x=>x.add (k*5)) a) (m - k) (c - k)) (l.drop k):=by
 obtain⟨a2,c2,hv,h1,h2,h3⟩:=h;simp only[Value.slice.injEq]at hv;obtain⟨rfl,rfl,rfl⟩:=hv;refine⟨_,c - k,by rw[List.length_drop],by rw[List.length_drop];omega,by omega,fun i u hi=>?_⟩;rw[List.getElem?_drop]at hi;obtain⟨b,off,rfl,h4⟩:=h3 (k+i) u hi;refine⟨b,off+k*5,by simp[addr_addL],?_⟩;rw[Nat.add_assoc,←Nat.add_mul];exact h4
theorem Vh.dropB{w:World}{a:Option Addr}{k m:Nat}{l:List Upd}(h:Vh w (.slice a m k) l):Vh w (.slice a 0 0) (l.drop k):=by
 obtain⟨a2,c2,hv,h1,h2,h3⟩:=h;simp only[Value.slice.injEq]at hv;obtain⟨rfl,rfl,rfl⟩:=hv;rw[List.drop_eq_nil_of_le h1];exact⟨a,0,rfl,by simp,by unfold maxLen;omega,fun i u hi=>by simp at hi⟩
end Go.Proofs.YtfhecilhcofboaaGreat
/- Who lacks what: a clock that has seen the base, and what it lacks of a log. -/
namespace Go.Proofs.YtfhecilhcofboaaGreat
open Go.RowKit

theorem yW{u:Upd}{cs:List Int}{n:Int}(hw:Zz u n=0)(hl:(cs.length:Int)=n):Xu u cs=true↔Uc u+1≤cs.getD u.author.toNat 0:=by
 obtain⟨hcc,h1,h2,h3⟩:=Xj hw;unfold Xu Vy;rw[decide_eq_true_iff];exact⟨fun h=>h.2.2,fun h=>⟨h1,by omega,h⟩⟩
theorem lacks_join{n:Int}{cs:List Int}(hc:Zn cs n=0):∀(l:List Upd) {xs ds:List Int},Zn xs n=0→Xf n xs l=0→ds.length=cs.length→(∀i,ds.getD i 0=Vb (cs.getD i 0) (xs.getD i 0))→
  ∀i,(Ys ds (Yc l cs)).getD i 0=Vb (cs.getD i 0) ((Ys xs l).getD i 0)
 |[],xs,ds,_,_,_,h=>h
 |u::r,xs,ds,hg,he,hdl,h=>by
  obtain⟨hw,hr⟩:=Vc he;obtain⟨hg',ht⟩:=Jr hg hw;obtain⟨hwu,hent,-⟩:=(Jo hg).1 hw;obtain⟨-,a1,a2,-⟩:=Xj hwu;obtain⟨-,-,c3,c4⟩:=Zm.1 hc;obtain⟨-,-,-,g4⟩:=Zm.1 hg;have hs:=yW hwu c3;rw[Ys]
  by_cases hsu:Xu u cs=true
  ·have e:Yc (u::r) cs=Yc r cs:=by unfold Yc;rw[List.filter_cons,hsu];simp
   rw[e];refine lacks_join hc r hg' hr hdl (fun i=>?_);rw[h i,ht i]
   split
   ·next e=>
    subst e;have:=hs.1 hsu;unfold Vb;rw[if_neg (by omega),if_neg (by omega)]
   rfl
  have hf:Xu u cs=false:=by
   cases hx:Xu u cs
   ·rfl
   exact absurd hx hsu
  have e:Yc (u::r) cs=u::Yc r cs:=by unfold Yc;rw[List.filter_cons,hf];simp
  rw[e,Ys];rw[hs]at hsu
  have hda:ds.getD u.author.toNat 0=xs.getD u.author.toNat 0:=by
   rw[h];unfold Vb;split <;> omega
  refine lacks_join hc r hg' hr (by rw[Jg];exact hdl) (fun i=>?_);rw[tickC_getD a1 (by omega) (by rw[hda];exact g4 _) i,ht i]
  split
  ·next e=>
   subst e;rw[hda];unfold Vb
   split <;> omega
  exact h i
theorem eq_getD{xs ys:List Int}(hl:xs.length=ys.length)(h:∀i,xs.getD i 0=ys.getD i 0):xs=ys:=by
 apply List.ext_getElem hl
 intro i h1 h2;have:=h i
 rwa[Ui h1,Ui h2]at this

theorem small_all{n:Int}:∀(l:List Upd) {xs:List Int},Xf n xs l=0→∀u ∈ l,Zz u n=0
 |[],_,_,u,hu=>by simp at hu
 |v::r,xs,h,u,hu=>by
  obtain⟨hw,hr⟩:=Vc h
  rcases List.mem_cons.1 hu with rfl|hu
  ·unfold Yz at hw
   split at hw
   ·assumption
   exact hw
  exact small_all r hr u hu
end Go.Proofs.YtfhecilhcofboaaGreat
