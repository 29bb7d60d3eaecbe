/- The document's own Join, for every two states; JoinTells. -/
import Derived.Test.YtfhecilhcofboaaGreatRfB
import Derived.Test.YtfhecilhcofboaaGreatRefMix
import Derived.Test.YtfhecilhcofboaaGreatJoPure
namespace Go.Proofs.YtfhecilhcofboaaGreat
open Go.RowKit

theorem box_grownT{w w':World}{e t:TypeId}{sz n B g:Nat}{v:Value}{xs cs:List Value}(h:Box w g cs t)(hr:w.ownsRow B e sz v n xs)(hg:w.grownBy w' v.ownBlock)(hte:t≠e):Box w' g cs t:=by
 unfold Box;rw[hg.block g h.lt (fun e=>Uv hr h hte e.symm)];exact h
theorem rowAt{w:World}{a:Option Addr}{m c:Nat}{xs:List Int}(h:Row w (.slice a m c) xs){i:Nat}(hi:i<xs.length):∃b off,a=some ⟨b,off,none⟩∧w.cell? ⟨b,off+i,none⟩=some (.int .i64 (xs.getD i 0)):=by
 obtain⟨a',c',h1,-,-,h4⟩:=h;simp only[Value.slice.injEq]at h1;obtain⟨rfl,-,-⟩:=h1;exact h4 i hi
theorem Jp.parts{w:World}{x y z:Value}{s:StS}(h:Jp w (.agg #[x,y,z]) s):Row w x s.clock∧Yf 5 Zv w y s.lives∧Yf 3 Yb w z s.tals:=by
 obtain⟨cv,lv,tv,he,h1,h2,h3⟩:=h;simp only[Value.agg.injEq,Array.mk.injEq,List.cons.injEq,and_true]at he;obtain⟨rfl,rfl,rfl⟩:=he;exact⟨h1,h2,h3⟩
theorem Of{w w':World}{p:Addr}{v:Value}(hg:Zh w w')(h:w.cell? p=some v):w'.cell? p=some v:=(hg.cell (p:=p) (World.block_lt_of_cell? w _ h)).trans h
theorem pairUp{α:Type}{R S:α→α→Prop}(h:∀x y,R x y→S x y):∀{l:List α},l.Pairwise R→l.Pairwise S
 |[],_=>List.Pairwise.nil
 |x::r,hp=>by
  rw[List.pairwise_cons]at hp ⊢;exact⟨fun y hy=>h _ _ (hp.1 y hy),pairUp h hp.2⟩
def Ji(th:StS)(out:List Zk)(x:Zk):List Zk:=if hasL out x=true then out else if hasL th.lives x=true∨th.clock.getD x.author.toNat 0<x.seq then Js x out else out
def Ya(th:StS)(out:List Zk)(l:List Zk):List Zk:=l.foldl (Ji th) out
theorem mem_refStep{th:StS}{out:List Zk}{x z:Zk}:z ∈ Ji th out x↔z ∈ out∨(z=x∧(z ∈ th.lives∨th.clock.getD z.author.toNat 0<z.seq)):=by
 unfold Ji
 by_cases h1:hasL out x=true
 ·rw[if_pos h1];rw[zQ]at h1
  constructor
  ·exact .inl
  rintro(h|⟨rfl,-⟩)
  ·exact h
  exact h1
 rw[if_neg h1]
 split
 ·next h2=>
  rw[zQ]at h2;rw[yY]
  constructor
  ·rintro(rfl|h)
   ·exact .inr ⟨rfl,h2⟩
   exact .inl h
  rintro(h|⟨rfl,-⟩)
  ·exact .inr h
  exact .inl rfl
 next h2=>
 rw[zQ]at h2
 constructor
 ·exact .inl
 rintro(h|⟨rfl,h⟩)
 ·exact h
 exact absurd h h2
theorem refStep_ord{th:StS}{out:List Zk}{x:Zk}(h:Yx out):Yx (Ji th out x):=by
 unfold Ji
 split
 ·exact h
 next h1=>
 rw[zQ]at h1
 split
 ·exact Qn h h1
 exact h
theorem refStep_len{th:StS}{out:List Zk}{x:Zk}:(Ji th out x).length≤out.length+1:=by
 unfold Ji
 split
 ·omega
 split
 ·rw[insL_len];omega
 omega
theorem refLives_snoc{th:StS}{out l:List Zk}{k:Nat}{x:Zk}(h:l[k]? =some x):Ya th out (l.take (k+1))=Ji th (Ya th out (l.take k)) x:=by
 obtain⟨hk,rfl⟩:=List.getElem?_eq_some_iff.1 h;unfold Ya;rw[List.take_succ_eq_append_getElem hk,List.foldl_append];rfl
theorem Qh{th:StS}:∀{l out:List Zk},(Ya th out l).length≤out.length+l.length
 |[],out=>by simp[Ya]
 |x::r,out=>by
  have h1:=Qh (th:=th) (l:=r) (out:=Ji th out x);have h2:=refStep_len (th:=th) (out:=out) (x:=x)
  show(Ya th (Ji th out x) r).length≤_
  rw[List.length_cons];omega
theorem xO{th:StS}:∀{l out:List Zk},Yx out→Yx (Ya th out l)∧∀z,z ∈ Ya th out l↔z ∈ out∨(z ∈ l∧(z ∈ th.lives∨th.clock.getD z.author.toNat 0<z.seq))
 |[],out,h=>⟨h,fun z=>by simp[Ya]⟩
 |x::r,out,h=>by
  obtain⟨h1,h2⟩:=xO (th:=th) (l:=r) (refStep_ord (th:=th) (x:=x) h);refine⟨h1,fun z=>?_⟩
  show z ∈ Ya th (Ji th out x) r↔_
  rw[h2,mem_refStep,List.mem_cons]
  constructor
  ·rintro((h|⟨rfl,h⟩)|⟨h,h'⟩)
   ·exact .inl h
   ·exact .inr ⟨.inl rfl,h⟩
   exact .inr ⟨.inr h,h'⟩
  rintro(h|⟨rfl|h,h'⟩)
  ·exact .inl (.inl h)
  ·exact .inl (.inr ⟨rfl,h'⟩)
  exact .inr ⟨h,h'⟩
section
variable {n:Int}{a b:StS}
theorem ref_lives(ha:OkS n a.clock a.lives a.tals)(hb:OkS n b.clock b.lives b.tals):Ya a (Ya b [] a.lives) b.lives=Xr ltL (zK a b):=by
 obtain⟨h1,h2⟩:=xO (th:=b) (l:=a.lives) (out:=[]) List.Pairwise.nil;obtain⟨h3,h4⟩:=xO (th:=a) (l:=b.lives) h1;refine pair_ext ltL_irr ltL_tr ?_ (Qx ltL_tr (rawL_pair ha hb)) fun x=>?_
 ·exact pairUp (fun _ _ h=>Ql.2 h) h3
 rw[h4,h2,Qz,mem_rawL ha hb]
 constructor
 ·rintro((h|⟨h,h'|h'⟩)|⟨h,h'|h'⟩)
  ·simp at h
  ·exact .inl ⟨h,h'⟩
  ·exact .inr (.inl ⟨h,by omega⟩)
  ·exact .inl ⟨h',h⟩
  exact .inr (.inr ⟨h,by omega⟩)
 rintro(⟨h,h'⟩|⟨h,h'⟩|⟨h,h'⟩)
 ·exact .inr ⟨h',.inl h⟩
 ·exact .inl (.inr ⟨h,.inr (by omega)⟩)
 exact .inr ⟨h,.inr (by omega)⟩
end
def Qo(a b:StS)(i:Nat):StS:=if a.clock.getD i 0<b.clock.getD i 0 then b else a
def zA(key i:Nat)(t:Tal):Bool:=decide (t.key=key)&&decide (t.author=i)
def Qf(a b:StS)(key i:Nat):List Tal:=(List.range i).flatMap fun i=>(Qo a b i).tals.filter (zA key i)
def Oj(a b:StS)(n key:Nat):List Tal:=(List.range key).flatMap fun key=>Qf a b key n
theorem zG(a b:StS)(key i:Nat):Qf a b key (i+1)=Qf a b key i++(Qo a b i).tals.filter (zA key i):=by unfold Qf;rw[List.range_succ,List.flatMap_append];simp
theorem talsK_succ(a b:StS)(n key:Nat):Oj a b n (key+1)=Oj a b n key++Qf a b key n:=by unfold Oj;rw[List.range_succ,List.flatMap_append];simp
theorem hit_take{key i:Nat}{l:List Tal}{k:Nat}{t:Tal}(h:l[k]? =some t):(l.take (k+1)).filter (zA key i)=if zA key i t=true then(l.take k).filter (zA key i)++[t]else(l.take k).filter (zA key i):=by
 obtain⟨hk,rfl⟩:=List.getElem?_eq_some_iff.1 h;rw[List.take_succ_eq_append_getElem hk,List.filter_append]
 split
 ·next h=>simp[h]
 next h=>simp[h]
theorem Oq{key i:Nat}{t:Tal}:zA key i t=true↔t.key=key∧t.author=i:=by unfold zA;rw[Bool.and_eq_true,decide_eq_true_iff,decide_eq_true_iff]
theorem yX{a b:StS}{key i:Nat}{t:Tal}:t ∈ Qf a b key i↔∃j,j<i∧t ∈ (Qo a b j).tals∧t.key=key∧t.author=j:=by
 unfold Qf;simp only[List.mem_flatMap,List.mem_range,List.mem_filter,Oq]
theorem talsK_len{a b:StS}{n key m:Nat}(h1:a.tals.length≤m)(h2:b.tals.length≤m):(Oj a b n key).length≤key*(n*m):=by
 have hI:∀(key i:Nat),(Qf a b key i).length≤i*m:=by
  intro key i
  induction i with
  |zero=>simp[Qf]
  |succ i ih=>
   rw[zG,List.length_append,Nat.succ_mul];have h3:=List.length_filter_le (zA key i) (Qo a b i).tals
   have h4:(Qo a b i).tals.length≤m:=by unfold Qo;split <;> assumption
   omega
 induction key with
 |zero=>simp[Oj]
 |succ key ih=>
  rw[talsK_succ,List.length_append,Nat.succ_mul];have:=hI key n;omega
section
variable {n:Nat}{a b:StS}
theorem from_ok(ha:OkS n a.clock a.lives a.tals)(hb:OkS n b.clock b.lives b.tals)(i:Nat):Ur (Qo a b i).tals∧∀t ∈ (Qo a b i).tals,0≤t.author∧t.author<n∧0≤t.key∧t.key≤15:=by
 unfold Qo
 split
 ·exact⟨hb.ord,fun t ht=>by have:=hb.tals t ht;unfold yS at this;omega⟩
 exact⟨ha.ord,fun t ht=>by have:=ha.tals t ht;unfold yS at this;omega⟩
theorem talsI_ord(ha:OkS n a.clock a.lives a.tals)(hb:OkS n b.clock b.lives b.tals)(key:Nat):∀i,Ur (Qf a b key i)
 |0=>by simp[Qf,Ur]
 |i+1=>by
  rw[zG];unfold Ur;rw[List.pairwise_append];refine⟨talsI_ord ha hb key i,(from_ok ha hb i).1.filter _,fun x hx y hy=>?_⟩;obtain⟨j,hj,-,h1,h2⟩:=yX.1 hx;obtain⟨-,h3⟩:=List.mem_filter.1 hy;obtain⟨h3,h4⟩:=Oq.1 h3;unfold Jb;omega
theorem talsK_ord(ha:OkS n a.clock a.lives a.tals)(hb:OkS n b.clock b.lives b.tals):∀key,Ur (Oj a b n key)∧∀t,t ∈ Oj a b n key↔∃k,k<key∧t ∈ Qf a b k n
 |0=>⟨by simp[Oj,Ur],fun t=>by simp[Oj]⟩
 |key+1=>by
  obtain⟨h1,h2⟩:=talsK_ord ha hb key;rw[talsK_succ];refine⟨?_,fun t=>?_⟩
  ·unfold Ur;rw[List.pairwise_append];refine⟨h1,talsI_ord ha hb key n,fun x hx y hy=>?_⟩;obtain⟨k,hk,hx⟩:=(h2 x).1 hx;obtain⟨-,-,-,h3,-⟩:=yX.1 hx;obtain⟨-,-,-,h4,-⟩:=yX.1 hy;unfold Jb;omega
  rw[List.mem_append,h2]
  constructor
  ·rintro(⟨k,hk,h⟩|h)
   ·exact⟨k,by omega,h⟩
   exact⟨key,by omega,h⟩
  rintro⟨k,hk,h⟩
  rcases Nat.lt_or_ge k key with hlt|hge
  ·exact .inl ⟨k,hlt,h⟩
  obtain rfl:k=key:=by omega
  exact .inr h
theorem ref_tals(ha:OkS n a.clock a.lives a.tals)(hb:OkS n b.clock b.lives b.tals):Oj a b n 16=Xr ltT (zJ a b):=by
 obtain⟨h1,h2⟩:=talsK_ord ha hb 16;refine pair_ext ltT_irr ltT_tr (pairUp (fun _ _ h=>Oy.2 h) h1) (Qx ltT_tr (rawT_pair ha hb)) fun t=>?_;rw[h2,Qz,mem_rawT]
 constructor
 ·rintro⟨k,-,h⟩;obtain⟨j,-,h,-,h4⟩:=yX.1 h;have e:t.author.toNat=j:=by omega
  rw[e];unfold Qo at h
  split at h
  ·next hc=>exact .inr ⟨h,hc⟩
  next hc=>exact .inl ⟨h,hc⟩
 intro h
 have key:t ∈ (Qo a b t.author.toNat).tals:=by
  unfold Qo
  rcases h with⟨h,hc⟩|⟨h,hc⟩
  ·rw[if_neg hc];exact h
  rw[if_pos hc];exact h
 obtain⟨k1,k2,k3,k4⟩:=(from_ok ha hb _).2 t key;exact⟨t.key.toNat,by omega,yX.2 ⟨t.author.toNat,by omega,key,by omega,by omega⟩⟩
end
structure JI (W1 w:World) (B go:Nat) (r lv tv:Value) (c:List Int) (L:List Zk) (TL:List Tal):Prop where
 box:Box w go [r,lv,tv] 27
 ck:Own w B r c
 lv:Xm 106 5 Zv w B lv L
 tl:Xm 108 3 Yb w B tv TL
 bl:Below B W1 w
 ge:B≤go
section
variable {W1 w w':World}{B go:Nat}{r lv tv:Value}{c:List Int}{L:List Zk}{TL:List Tal}
theorem JI.below(h:JI W1 w B go r lv tv c L TL)(hb:Below w.heap.size w w'):JI W1 w' B go r lv tv c L TL:=
 ⟨h.box.below hb (nlr _),h.ck.below hb (nlr _),h.lv.below hb (nlr _),h.tl.below hb (nlr _),h.bl.trans (hb.mono (Nat.le_trans h.ge (Nat.le_of_lt h.box.lt))),h.ge⟩
theorem JI.setL(h:JI W1 w B go r lv tv c L TL){v:Value}{M:List Zk}(hm:Xm 106 5 Zv w B v M):JI W1 (w.setCell ⟨go,1,none⟩ v) B go r v tv c M TL:=
 ⟨by have:=h.box.set 1 v;simpa using this,Yd h.ck h.box (by decide) 1 v,Yd hm h.box (by decide) 1 v,Yd h.tl h.box (by decide) 1 v,h.bl.setCell (p:=⟨go,1,none⟩) h.ge v,h.ge⟩
theorem JI.setT(h:JI W1 w B go r lv tv c L TL){v:Value}{M:List Tal}(hm:Xm 108 3 Yb w B v M):JI W1 (w.setCell ⟨go,2,none⟩ v) B go r lv v c L M:=
 ⟨by have:=h.box.set 2 v;simpa using this,Yd h.ck h.box (by decide) 2 v,Yd h.lv h.box (by decide) 2 v,Yd hm h.box (by decide) 2 v,h.bl.setCell (p:=⟨go,2,none⟩) h.ge v,h.ge⟩
theorem JI.grown(h:JI W1 w B go r lv tv c L TL)(hg:w.grownBy w' tv.ownBlock)(hB:B≤w.heap.size):Box w' go [r,lv,tv] 27∧Own w' B r c∧Xm 106 5 Zv w' B lv L∧Below B W1 w':=
 ⟨box_grownT h.box h.tl hg (by decide),Xt h.ck h.tl hg (by decide),Xt h.lv h.tl hg (by decide),h.bl.grown hg hB (fun g hgg=>(World.ownsRow.lt h.tl g hgg).1)⟩
end
theorem JI.other{W1 w:World}{B go gf:Nat}{r lv tv:Value}{c:List Int}{L:List Zk}{TL:List Tal}{cs:List Value}(h:JI W1 w B go r lv tv c L TL)(hf:Box w gf cs 27)(hne:¬go=gf)(hge:B≤gf)(i:Nat)(v:Value):JI W1 (w.setCell ⟨gf,i,none⟩ v) B go r lv tv c L TL:=
 ⟨h.box.away hne,Yd h.ck hf (by decide) i v,Yd h.lv hf (by decide) i v,Yd h.tl hf (by decide) i v,h.bl.setCell (p:=⟨gf,i,none⟩) hge v,h.ge⟩
theorem JI.setT2{W1 w:World}{B go:Nat}{r lv tv v:Value}{c:List Int}{L:List Zk}{M:List Tal}(hb:Box w go [r,lv,tv] 27)(hc:Own w B r c)(hl:Xm 106 5 Zv w B lv L)(hm:Xm 108 3 Yb w B v M)(hw:Below B W1 w)(hg:B≤go):JI W1 (w.setCell ⟨go,2,none⟩ v) B go r lv v c L M:=
 ⟨by have:=hb.set 2 v;simpa using this,Yd hc hb (by decide) 2 v,Yd hl hb (by decide) 2 v,Yd hm hb (by decide) 2 v,hw.setCell (p:=⟨go,2,none⟩) hg v,hg⟩
theorem alloc_cellsJ(w:World)(cs:List Value)(t:TypeId):∀(j:Nat) (q:Value),cs[j]? =some q→(w.alloc (.cells cs.toArray t)).cell? ((⟨w.heap.size,0,none⟩:Addr).add j)=some q:=by
 intro j q hj
 have e:(⟨w.heap.size,0,none⟩:Addr).add j=⟨w.heap.size,j,none⟩:=by cases j <;> simp[Addr.add]
 rw[e]
 exact(Box.new w cs t).get j hj
theorem talsI_len{a b:StS}{key i m:Nat}(h1:a.tals.length≤m)(h2:b.tals.length≤m):(Qf a b key i).length≤i*m:=by
 induction i with
 |zero=>simp[Qf]
 |succ i ih=>
  rw[zG,List.length_append,Nat.succ_mul];have h3:=List.length_filter_le (zA key i) (Qo a b i).tals
  have h4:(Qo a b i).tals.length≤m:=by unfold Qo;split <;> assumption
  omega
theorem joinL_len{a b:StS}:(Ya b [] a.lives).length≤a.lives.length∧(Ya a (Ya b [] a.lives) b.lives).length≤a.lives.length+b.lives.length:=by
 have h1:=Qh (th:=b) (l:=a.lives) (out:=[]);have h2:=Qh (th:=a) (l:=b.lives) (out:=Ya b [] a.lives)
 simp at h1
 omega
set_option maxRecDepth 100000 in
set_option maxHeartbeats 2000000 in
theorem join_ref4(va vb:Value)(a b:StS)(w:World)(ha:Jp w va a)(hb:Jp w vb b):
  Calls Tryz.prog 51 #[va,vb] w fun e w'=>∃rv,e=.returned (.tuple #[rv,.int .i64 (xA a b)])∧Yl w' (w.heap.size+3) rv (joinX a b)∧Below w.heap.size w w':=by
 have hain:=ha;have hbin:=hb;obtain⟨cv,lv,tv,rfl,hc,hv,ht⟩:=ha;obtain⟨a1,cap1,rfl,-,-,-⟩:=id hc;obtain⟨a2,cap2,rfl,-,-,-⟩:=id hv;obtain⟨a3,cap3,rfl,-,-,-⟩:=id ht;obtain⟨cv',lv',tv',rfl,hc',hv',ht'⟩:=hb;obtain⟨b1,dap1,rfl,-,-,-⟩:=id hc';obtain⟨b2,dap2,rfl,-,-,-⟩:=id hv';obtain⟨b3,dap3,rfl,-,-,-⟩:=id ht';have hbl:=Below.plus (Below.plus (Below.plus (bpl w (.cells #[.slice a1 a.clock.length cap1,.slice a2 a.lives.length cap2,.slice a3 a.tals.length cap3] 27)) (.cells #[.slice b1 b.clock.length dap1,.slice b2 b.lives.length dap2,.slice b3 b.tals.length dap3] 27)) (.cells #[.slice none 0 0,.slice none 0 0,.slice none 0 0] 27)) (.cells #[.slice a1 a.clock.length cap1,.slice a2 a.lives.length cap2,.slice a3 a.tals.length cap3,.slice b1 b.clock.length dap1,.slice b2 b.lives.length dap2,.slice b3 b.tals.length dap3] 27);have S0:=Za (hain.below hbl (nlr _));have T0:=Za (hbin.below hbl (nlr _));have C0:=Za (hc.below hbl (nlr _));have D0:=Za (hc'.below hbl (nlr _));have G0:=Za ((((Box.new w [.slice a1 a.clock.length cap1,.slice a2 a.lives.length cap2,.slice a3 a.tals.length cap3] 27).plus (.cells #[.slice b1 b.clock.length dap1,.slice b2 b.lives.length dap2,.slice b3 b.tals.length dap3] 27)).plus (.cells #[.slice none 0 0,.slice none 0 0,.slice none 0 0] 27)).plus (.cells #[.slice a1 a.clock.length cap1,.slice a2 a.lives.length cap2,.slice a3 a.tals.length cap3,.slice b1 b.clock.length dap1,.slice b2 b.lives.length dap2,.slice b3 b.tals.length dap3] 27));have K0:=Za (((Box.new (w.alloc (.cells #[.slice a1 a.clock.length cap1,.slice a2 a.lives.length cap2,.slice a3 a.tals.length cap3] 27)) [.slice b1 b.clock.length dap1,.slice b2 b.lives.length dap2,.slice b3 b.tals.length dap3] 27).plus (.cells #[.slice none 0 0,.slice none 0 0,.slice none 0 0] 27)).plus (.cells #[.slice a1 a.clock.length cap1,.slice a2 a.lives.length cap2,.slice a3 a.tals.length cap3,.slice b1 b.clock.length dap1,.slice b2 b.lives.length dap2,.slice b3 b.tals.length dap3] 27));have R0:=Za ((Box.new ((w.alloc (.cells #[.slice a1 a.clock.length cap1,.slice a2 a.lives.length cap2,.slice a3 a.tals.length cap3] 27)).alloc (.cells #[.slice b1 b.clock.length dap1,.slice b2 b.lives.length dap2,.slice b3 b.tals.length dap3] 27)) [.slice none 0 0,.slice none 0 0,.slice none 0 0] 27).plus (.cells #[.slice a1 a.clock.length cap1,.slice a2 a.lives.length cap2,.slice a3 a.tals.length cap3,.slice b1 b.clock.length dap1,.slice b2 b.lives.length dap2,.slice b3 b.tals.length dap3] 27));have Z0:=Za (Box.new (((w.alloc (.cells #[.slice a1 a.clock.length cap1,.slice a2 a.lives.length cap2,.slice a3 a.tals.length cap3] 27)).alloc (.cells #[.slice b1 b.clock.length dap1,.slice b2 b.lives.length dap2,.slice b3 b.tals.length dap3] 27)).alloc (.cells #[.slice none 0 0,.slice none 0 0,.slice none 0 0] 27)) [.slice a1 a.clock.length cap1,.slice a2 a.lives.length cap2,.slice a3 a.tals.length cap3,.slice b1 b.clock.length dap1,.slice b2 b.lives.length dap2,.slice b3 b.tals.length dap3] 27);simp only[World.size_alloc]at K0 R0 Z0;have HB0:=Za hbl;clear hain hbin hc hv ht hc' hv' ht' hbl;obtain⟨W1,HW1⟩:∃W1,Hid (((((w.alloc (.cells #[.slice a1 a.clock.length cap1,.slice a2 a.lives.length cap2,.slice a3 a.tals.length cap3] 27)).alloc (.cells #[.slice b1 b.clock.length dap1,.slice b2 b.lives.length dap2,.slice b3 b.tals.length dap3] 27)).alloc (.cells #[.slice none 0 0,.slice none 0 0,.slice none 0 0] 27)).alloc (.cells #[.slice a1 a.clock.length cap1,.slice a2 a.lives.length cap2,.slice a3 a.tals.length cap3,.slice b1 b.clock.length dap1,.slice b2 b.lives.length dap2,.slice b3 b.tals.length dap3] 27))=W1):=⟨_,rfl⟩;rw[HW1.out]at S0 T0 C0 D0 G0 K0 R0 Z0 HB0;have SS:=S0;have TT:=T0;have GG:=G0;have KK:=K0;have RR:=R0;obtain⟨E1,HE1⟩:∃E1,Hid (stE a a.clock.length=E1):=⟨_,rfl⟩;obtain⟨E2,HE2⟩:∃E2,Hid (stE b a.clock.length=E2):=⟨_,rfl⟩;obtain⟨A1,HA1⟩:∃A1,Hid (stA a a.clock.length=A1):=⟨_,rfl⟩;obtain⟨A2,HA2⟩:∃A2,Hid (stA b a.clock.length=A2):=⟨_,rfl⟩;obtain⟨E,HE⟩:∃E,Hid (xA a b=E):=⟨_,rfl⟩;obtain⟨X,HX⟩:∃X,Hid (joinX a b=X):=⟨_,rfl⟩;have HEE:Hid (E=if E1≠0 then E1 else E2):=by unfold Hid;rw[←HE.out,←HE1.out,←HE2.out];rfl
 rw[HE.out,HX.out];have HXB:Hid (¬E=0→X=⟨[],[],[]⟩):=fun h=>by rw[←HX.out];exact joinX_bad (by rw[HE.out];exact h)
 go_enter Tryz.func51,Tryz.ntmps51
 go_wp2_with fail
 rw[HW1.out]
 go_loopw [29] (fun i wr=>∃q:Int,(q=0∨q=1∨q=2)∧i=.int .i64 q∧Hid (1≤q→E1=0)∧Hid (2≤q→E2=0)∧Hid (Below W1.heap.size W1 wr)) (fun i _=>2 - (intOf i).toNat)
 case atStart=>exact⟨0,.inl rfl,rfl,Za (fun h=>by omega),Za (fun h=>by omega),Za (Below.refl _ _)⟩
 obtain⟨q,hq,rfl,HQ1,HQ2,HB20⟩:=hrel;obtain⟨w20,rfl⟩:∃w20,w20=wr:=⟨wr,rfl⟩;have S20:=Za (S0.below HB20.out (nlr _));have T20:=Za (T0.below HB20.out (nlr _));have C20:=Za (C0.below HB20.out (nlr _));have D20:=Za (D0.below HB20.out (nlr _));have G20:=Za (G0.below HB20.out (nlr _));have K20:=Za (K0.below HB20.out (nlr _));have R20:=Za (R0.below HB20.out (nlr _));have Z20:=Za (Z0.below HB20.out (nlr _));clear S0 T0 C0 D0 G0 K0 R0 Z0;have hrl:=R20.lt
 rcases hq with rfl|rfl|rfl
 ·have z0:=Z20.get 0 rfl;have z1:=Z20.get 1 rfl;have z2:=Z20.get 2 rfl
  by_cases hE:E1=0
  ·have hE':(E1 != 0)=false:=by simp[hE]
   have HEZ:=Za hE;clear hE;have HB21:=Za (Zb HB20.out (bpl w20 (.cells #[.slice a1 a.clock.length cap1,.slice a2 a.lives.length cap2,.slice a3 a.tals.length cap3] 27)));have S21:=Za (S20.below (bpl w20 (.cells #[.slice a1 a.clock.length cap1,.slice a2 a.lives.length cap2,.slice a3 a.tals.length cap3] 27)) (nlr _));have T21:=Za (T20.below (bpl w20 (.cells #[.slice a1 a.clock.length cap1,.slice a2 a.lives.length cap2,.slice a3 a.tals.length cap3] 27)) (nlr _));have V21:=Za (Box.new w20 [.slice a1 a.clock.length cap1,.slice a2 a.lives.length cap2,.slice a3 a.tals.length cap3] 27);clear HB20 S20 T20
   go_wp2_with fail
   refine(Jx _ a a.clock.length _ S21.out).mono ?_;rintro e w22 ⟨rfl,hb⟩;have HB22:=Za (Zb HB21.out hb);have S22:=Za (S21.below hb (nlr _));have T22:=Za (T21.below hb (nlr _));have V22:=Za (V21.below hb (nlr _));clear HB21 hb S21 T21 V21;rw[HE1.out,HA1.out];have HB23:=Za (Zb HB22.out (bpl w22 (.cells #[.int .i64 E1,.int .i64 A1] 65)));have S23:=Za (S22.below (bpl w22 (.cells #[.int .i64 E1,.int .i64 A1] 65)) (nlr _));have T23:=Za (T22.below (bpl w22 (.cells #[.int .i64 E1,.int .i64 A1] 65)) (nlr _));have V23:=Za (V22.below (bpl w22 (.cells #[.int .i64 E1,.int .i64 A1] 65)) (nlr _));have F23:=Za (Box.new w22 [.int .i64 E1,.int .i64 A1] 65);clear HB22 S22 T22 V22
   go_wp2_with fail
   go_roundw
   case rel=>exact⟨1,.inr (.inl rfl),by go_num,Za (fun _=>HEZ.out),Za (fun h=>by omega),HB23.out⟩
   case measure=>simp[intOf]
  have hE':(E1 != 0)=true:=by simp[hE]
  have hEX:E=E1:=by rw[HEE.out];rw[if_pos hE]
  have hXX:X=⟨[],[],[]⟩:=HXB.out (by rw[hEX];exact hE);subst hXX;subst hEX;clear hE HEE HXB;have HB21:=Za (Zb HB20.out (bpl w20 (.cells #[.slice a1 a.clock.length cap1,.slice a2 a.lives.length cap2,.slice a3 a.tals.length cap3] 27)));have S21:=Za (S20.below (bpl w20 (.cells #[.slice a1 a.clock.length cap1,.slice a2 a.lives.length cap2,.slice a3 a.tals.length cap3] 27)) (nlr _));have T21:=Za (T20.below (bpl w20 (.cells #[.slice a1 a.clock.length cap1,.slice a2 a.lives.length cap2,.slice a3 a.tals.length cap3] 27)) (nlr _));have R21:=Za (R20.below (bpl w20 (.cells #[.slice a1 a.clock.length cap1,.slice a2 a.lives.length cap2,.slice a3 a.tals.length cap3] 27)) (nlr _));have V21:=Za (Box.new w20 [.slice a1 a.clock.length cap1,.slice a2 a.lives.length cap2,.slice a3 a.tals.length cap3] 27);clear HB20 S20 T20 R20
  go_wp2_with fail
  refine(Jx _ a a.clock.length _ S21.out).mono ?_;rintro e w22 ⟨rfl,hb⟩;have HB22:=Za (Zb HB21.out hb);have S22:=Za (S21.below hb (nlr _));have T22:=Za (T21.below hb (nlr _));have R22:=Za (R21.below hb (nlr _));have V22:=Za (V21.below hb (nlr _));clear HB21 hb S21 T21 R21 V21;rw[HE1.out,HA1.out];have n1:¬(w22.heap.size=w.heap.size+1+1):=by have:=R22.lt;omega
  have n2:¬(w.heap.size+1+1=w22.heap.size):=by have:=R22.lt;omega
  have HB23:=Za (Zb HB22.out (bpl w22 (.cells #[.int .i64 E,.int .i64 A1] 65)));have S23:=Za (S22.below (bpl w22 (.cells #[.int .i64 E,.int .i64 A1] 65)) (nlr _));have T23:=Za (T22.below (bpl w22 (.cells #[.int .i64 E,.int .i64 A1] 65)) (nlr _));have R23:=Za (R22.below (bpl w22 (.cells #[.int .i64 E,.int .i64 A1] 65)) (nlr _));have V23:=Za (V22.below (bpl w22 (.cells #[.int .i64 E,.int .i64 A1] 65)) (nlr _));have F23:=Za (Box.new w22 [.int .i64 E,.int .i64 A1] 65);clear HB22 S22 T22 R22 V22;obtain⟨cF0,cF1⟩:=F23.c2;obtain⟨cR0,cR1,cR2⟩:=R23.c3;have f0:=R23.free 0;have f1:=R23.free 1;have f2:=R23.free 2
  go_upto_region 7 with fail
  go_region
  go_wp2_with fail
  have hR:=((R23.set 0 (.slice none 0 0)).set 1 (.slice none 0 0)).set 2 (.slice none 0 0);refine bodyPost_ret (Zc rfl _ _ (w.heap.size+1+1) 27 _ (0,0) _ rfl hR.drew Tryz.underlying27 rfl Tryz.sizeState) rfl ⟨_,rfl,Yl.none _ _,?_⟩
  exact(((HB0.trans (HB23.mono HB0.size)).setCell (by show w.heap.size≤w.heap.size+1+1;omega) _).setCell (by show w.heap.size≤w.heap.size+1+1;omega) _ |>.setCell (by show w.heap.size≤w.heap.size+1+1;omega) _).drew
 ·have z0:=Z20.get 3 rfl;have z1:=Z20.get 4 rfl;have z2:=Z20.get 5 rfl
  by_cases hE:E2=0
  ·have hE':(E2 != 0)=false:=by simp[hE]
   have HEZ:=Za hE;clear hE;have HB21:=Za (Zb HB20.out (bpl w20 (.cells #[.slice b1 b.clock.length dap1,.slice b2 b.lives.length dap2,.slice b3 b.tals.length dap3] 27)));have S21:=Za (S20.below (bpl w20 (.cells #[.slice b1 b.clock.length dap1,.slice b2 b.lives.length dap2,.slice b3 b.tals.length dap3] 27)) (nlr _));have T21:=Za (T20.below (bpl w20 (.cells #[.slice b1 b.clock.length dap1,.slice b2 b.lives.length dap2,.slice b3 b.tals.length dap3] 27)) (nlr _));have V21:=Za (Box.new w20 [.slice b1 b.clock.length dap1,.slice b2 b.lives.length dap2,.slice b3 b.tals.length dap3] 27);clear HB20 S20 T20
   go_wp2_with fail
   refine(Jx _ b a.clock.length _ T21.out).mono ?_;rintro e w22 ⟨rfl,hb⟩;have HB22:=Za (Zb HB21.out hb);have S22:=Za (S21.below hb (nlr _));have T22:=Za (T21.below hb (nlr _));have V22:=Za (V21.below hb (nlr _));clear HB21 hb S21 T21 V21;rw[HE2.out,HA2.out];have HB23:=Za (Zb HB22.out (bpl w22 (.cells #[.int .i64 E2,.int .i64 A2] 65)));have S23:=Za (S22.below (bpl w22 (.cells #[.int .i64 E2,.int .i64 A2] 65)) (nlr _));have T23:=Za (T22.below (bpl w22 (.cells #[.int .i64 E2,.int .i64 A2] 65)) (nlr _));have V23:=Za (V22.below (bpl w22 (.cells #[.int .i64 E2,.int .i64 A2] 65)) (nlr _));have F23:=Za (Box.new w22 [.int .i64 E2,.int .i64 A2] 65);clear HB22 S22 T22 V22
   go_wp2_with fail
   go_roundw
   case rel=>exact⟨2,.inr (.inr rfl),by go_num,Za (fun _=>HQ1.out (by omega)),Za (fun _=>HEZ.out),HB23.out⟩
   case measure=>simp[intOf]
  have hE':(E2 != 0)=true:=by simp[hE]
  have hEX:E=E2:=by rw[HEE.out];rw[if_neg (by rw[HQ1.out (by omega)];simp)]
  have hXX:X=⟨[],[],[]⟩:=HXB.out (by rw[hEX];exact hE);subst hXX;subst hEX;clear hE HEE HXB;have HB21:=Za (Zb HB20.out (bpl w20 (.cells #[.slice b1 b.clock.length dap1,.slice b2 b.lives.length dap2,.slice b3 b.tals.length dap3] 27)));have S21:=Za (S20.below (bpl w20 (.cells #[.slice b1 b.clock.length dap1,.slice b2 b.lives.length dap2,.slice b3 b.tals.length dap3] 27)) (nlr _));have T21:=Za (T20.below (bpl w20 (.cells #[.slice b1 b.clock.length dap1,.slice b2 b.lives.length dap2,.slice b3 b.tals.length dap3] 27)) (nlr _));have R21:=Za (R20.below (bpl w20 (.cells #[.slice b1 b.clock.length dap1,.slice b2 b.lives.length dap2,.slice b3 b.tals.length dap3] 27)) (nlr _));have V21:=Za (Box.new w20 [.slice b1 b.clock.length dap1,.slice b2 b.lives.length dap2,.slice b3 b.tals.length dap3] 27);clear HB20 S20 T20 R20
  go_wp2_with fail
  refine(Jx _ b a.clock.length _ T21.out).mono ?_;rintro e w22 ⟨rfl,hb⟩;have HB22:=Za (Zb HB21.out hb);have S22:=Za (S21.below hb (nlr _));have T22:=Za (T21.below hb (nlr _));have R22:=Za (R21.below hb (nlr _));have V22:=Za (V21.below hb (nlr _));clear HB21 hb S21 T21 R21 V21;rw[HE2.out,HA2.out];have n1:¬(w22.heap.size=w.heap.size+1+1):=by have:=R22.lt;omega
  have n2:¬(w.heap.size+1+1=w22.heap.size):=by have:=R22.lt;omega
  have HB23:=Za (Zb HB22.out (bpl w22 (.cells #[.int .i64 E,.int .i64 A2] 65)));have S23:=Za (S22.below (bpl w22 (.cells #[.int .i64 E,.int .i64 A2] 65)) (nlr _));have T23:=Za (T22.below (bpl w22 (.cells #[.int .i64 E,.int .i64 A2] 65)) (nlr _));have R23:=Za (R22.below (bpl w22 (.cells #[.int .i64 E,.int .i64 A2] 65)) (nlr _));have V23:=Za (V22.below (bpl w22 (.cells #[.int .i64 E,.int .i64 A2] 65)) (nlr _));have F23:=Za (Box.new w22 [.int .i64 E,.int .i64 A2] 65);clear HB22 S22 T22 R22 V22;obtain⟨cF0,cF1⟩:=F23.c2;obtain⟨cR0,cR1,cR2⟩:=R23.c3;have f0:=R23.free 0;have f1:=R23.free 1;have f2:=R23.free 2
  go_upto_region 7 with fail
  go_region
  go_wp2_with fail
  have hR:=((R23.set 0 (.slice none 0 0)).set 1 (.slice none 0 0)).set 2 (.slice none 0 0);refine bodyPost_ret (Zc rfl _ _ (w.heap.size+1+1) 27 _ (0,0) _ rfl hR.drew Tryz.underlying27 rfl Tryz.sizeState) rfl ⟨_,rfl,Yl.none _ _,?_⟩
  exact(((HB0.trans (HB23.mono HB0.size)).setCell (by show w.heap.size≤w.heap.size+1+1;omega) _).setCell (by show w.heap.size≤w.heap.size+1+1;omega) _ |>.setCell (by show w.heap.size≤w.heap.size+1+1;omega) _).drew
 have hz1:E1=0:=HQ1.out (by omega);have hz2:E2=0:=HQ2.out (by omega);subst hz1 hz2;have hE0:E=0:=by rw[HEE.out];simp
 subst hE0;have oa:=Qw.1 HE1.out;have ob:=Qw.1 HE2.out;have HOA:=Za oa;have HOB:=Za ob;have HXX:Hid (X=⟨joinC a.clock b.clock,Xr ltL (zK a b),Xr ltT (zJ a b)⟩):=by unfold Hid;rw[←HX.out];exact joinX_zero HE.out
 have hla:Hid (a.clock.length*8≤140737488351232):=by have:=Zm.1 oa.clock;unfold Hid;omega
 have hlb:Hid (b.clock.length*8≤140737488351232):=by have:=Zm.1 ob.clock;unfold Hid;omega
 clear oa ob HEE HXB HQ1 HQ2 Z20;obtain⟨J,HJ⟩:∃J,Hid (joinC a.clock b.clock=J):=⟨_,rfl⟩;have g0:=G20.get 0 rfl;have k0:=K20.get 0 rfl
 go_wp2_with fail
 refine(join_ref _ _ a.clock b.clock _ C20.out D20.out hla.out hlb.out).mono ?_;rintro e w21 ⟨rc,rfl,hRC,hb21⟩;rw[HJ.out]at hRC;obtain⟨ra,rcap,hrc,-⟩:=hRC.row;subst hrc;clear g0 k0;have HS1:=Za HB20.size;have hbp:=bpl w21 (.cells #[.slice ra J.length rcap,.slice none 0 0,.slice none 0 0] 27);have hbx:=Zb hb21 hbp;have J22:JI W1 (w21.alloc (.cells #[.slice ra J.length rcap,.slice none 0 0,.slice none 0 0] 27)) W1.heap.size w21.heap.size (.slice ra J.length rcap) (.slice none 0 0) (.slice none 0 0) J [] []:=⟨Box.new w21 [.slice ra J.length rcap,.slice none 0 0,.slice none 0 0] 27,(hRC.mono HS1.out).below hbp (nlr _),Xm.nil _ _,Xm.nil _ _,Zb HB20.out hbx,Nat.le_trans HS1.out hb21.size⟩;have G22:=Za (G20.below hbx (nlr _));have K22:=Za (K20.below hbx (nlr _));have R22:=Za (R20.below hbx (nlr _));obtain⟨go,HGO⟩:∃go,Hid (w21.heap.size=go):=⟨_,rfl⟩;obtain⟨w22,HW22⟩:∃W,Hid (w21.alloc (.cells #[.slice ra J.length rcap,.slice none 0 0,.slice none 0 0] 27)=W):=⟨_,rfl⟩;rw[HW22.out]at J22 G22 K22 R22 hbx;rw[HGO.out]at J22;have HJ22:=Za J22;have HLTR:=Za (Nat.lt_of_lt_of_le R20.lt hb21.size);rw[HGO.out]at HLTR;clear hRC hb21 hbp J22;obtain⟨g0,g1,g2⟩:=G22.c3;obtain⟨k0,k1,k2⟩:=K22.c3;have hbp:=bpl w22 (.cells #[.slice a1 a.clock.length cap1,.slice a2 a.lives.length cap2,.slice a3 a.tals.length cap3,.slice b1 b.clock.length dap1,.slice b2 b.lives.length dap2,.slice b3 b.tals.length dap3,.slice b1 b.clock.length dap1,.slice b2 b.lives.length dap2,.slice b3 b.tals.length dap3,.slice a1 a.clock.length cap1,.slice a2 a.lives.length cap2,.slice a3 a.tals.length cap3] 141);have B23:=Box.new w22 [.slice a1 a.clock.length cap1,.slice a2 a.lives.length cap2,.slice a3 a.tals.length cap3,.slice b1 b.clock.length dap1,.slice b2 b.lives.length dap2,.slice b3 b.tals.length dap3,.slice b1 b.clock.length dap1,.slice b2 b.lives.length dap2,.slice b3 b.tals.length dap3,.slice a1 a.clock.length cap1,.slice a2 a.lives.length cap2,.slice a3 a.tals.length cap3] 141;have J23:=HJ22.below hbp;have G23:=Za (G22.below hbp (nlr _));have K23:=Za (K22.below hbp (nlr _));have R23:=Za (R22.below hbp (nlr _));have HGL:Hid (go<w22.heap.size):=HJ22.box.lt;obtain⟨gl,HGB⟩:∃gl,Hid (w22.heap.size=gl):=⟨_,rfl⟩;obtain⟨w23,HW23⟩:∃W,Hid (w22.alloc (.cells #[.slice a1 a.clock.length cap1,.slice a2 a.lives.length cap2,.slice a3 a.tals.length cap3,.slice b1 b.clock.length dap1,.slice b2 b.lives.length dap2,.slice b3 b.tals.length dap3,.slice b1 b.clock.length dap1,.slice b2 b.lives.length dap2,.slice b3 b.tals.length dap3,.slice a1 a.clock.length cap1,.slice a2 a.lives.length cap2,.slice a3 a.tals.length cap3] 141)=W):=⟨_,rfl⟩;rw[HW23.out]at B23 J23 G23 K23 R23;rw[HGB.out]at B23 HGL;have HJ23:=Za J23;have L23:=Za B23;clear hbp B23 J23 HJ22 G20 K20 R20
 go_upto_region 10 with fail
 rw[HW22.out,HGO.out]
 go_wp2_with fail
 rw[HW23.out,HGB.out];clear g0 g1 g2 k0 k1 k2
 go_loopw [57] (fun i wr=>∃(q:Int) (lv:Value) (L:List Zk),(q=0∨q=1∨q=2)∧i=.int .i64 q∧Hid (q=0→L=[])∧Hid (q=1→L=Ya b [] a.lives)∧Hid (q=2→L=Ya a (Ya b [] a.lives) b.lives)∧Hid (JI W1 wr W1.heap.size go (.slice ra J.length rcap) lv (.slice none 0 0) J L [])∧Hid (Box wr gl [.slice a1 a.clock.length cap1,.slice a2 a.lives.length cap2,.slice a3 a.tals.length cap3,.slice b1 b.clock.length dap1,.slice b2 b.lives.length dap2,.slice b3 b.tals.length dap3,.slice b1 b.clock.length dap1,.slice b2 b.lives.length dap2,.slice b3 b.tals.length dap3,.slice a1 a.clock.length cap1,.slice a2 a.lives.length cap2,.slice a3 a.tals.length cap3] 141)) (fun i _=>2 - (intOf i).toNat)
 case atStart=>exact⟨0,_,[],.inl rfl,rfl,fun _=>rfl,fun h=>by omega,fun h=>by omega,HJ23,L23⟩
 obtain⟨q,lv,L,hq,rfl,HL0,HL1,HL2,HJ24,L24⟩:=hrel;obtain⟨w24,rfl⟩:∃w24,w24=wr:=⟨wr,rfl⟩;clear HJ23 L23 G22 K22 R22 G23 K23 R23
 rcases hq with rfl|rfl|rfl
 ·skip
  have hLL:L=[]:=HL0.out rfl;subst hLL;clear HL0 HL1 HL2;obtain⟨y0,y1,y2,y3,y4,y5⟩:=L24.c6;have hbp:=bpl w24 (.cells #[.slice a1 a.clock.length cap1,.slice a2 a.lives.length cap2,.slice a3 a.tals.length cap3,.slice b1 b.clock.length dap1,.slice b2 b.lives.length dap2,.slice b3 b.tals.length dap3] 141);have B25:=Box.new w24 [.slice a1 a.clock.length cap1,.slice a2 a.lives.length cap2,.slice a3 a.tals.length cap3,.slice b1 b.clock.length dap1,.slice b2 b.lives.length dap2,.slice b3 b.tals.length dap3] 141;have J25:=HJ24.below hbp;have L25:=Za (L24.below hbp (nlr _));obtain⟨gw,HGW⟩:∃gw,Hid (w24.heap.size=gw):=⟨_,rfl⟩;obtain⟨w25,HW25⟩:∃W,Hid (w24.alloc (.cells #[.slice a1 a.clock.length cap1,.slice a2 a.lives.length cap2,.slice a3 a.tals.length cap3,.slice b1 b.clock.length dap1,.slice b2 b.lives.length dap2,.slice b3 b.tals.length dap3] 141)=W):=⟨_,rfl⟩;rw[HW25.out]at B25 J25 L25;rw[HGW.out]at B25;have HJ25:=Za J25;clear hbp J25 HJ24 L24
  go_upto_region 13 with fail
  rw[HW25.out,HGW.out];clear y0 y1 y2 y3 y4 y5;have HB25:=Za B25;have HK13:=Za fun w' (hg:Zh w25 w')=>(HB25.below hg (nlr _)).c6
  go_cut [13,14] (fun p s wx=>∃gm gt,p=.pointer (some ⟨gm,0,none⟩)∧s=.pointer (some ⟨gt,0,none⟩)∧Hid (Box wx gm [.slice a1 a.clock.length cap1,.slice a2 a.lives.length cap2,.slice a3 a.tals.length cap3] 27)∧Hid (Box wx gt [.slice b1 b.clock.length dap1,.slice b2 b.lives.length dap2,.slice b3 b.tals.length dap3] 27)∧Hid (w25.heap.size≤gm∧w25.heap.size≤gt)∧Hid (Zh w25 wx))
  case first=>
   refine rgn HK13.out fun wd hgd hHeld=>?_;refine ty 0 (.pointer (some ⟨gw,0,none⟩)) ?_;refine ty 1 (.agg #[.slice a1 a.clock.length cap1,.slice a2 a.lives.length cap2,.slice a3 a.tals.length cap3]) ?_;refine ty 2 (.pointer (some ⟨gw,3,none⟩)) ?_;refine ty 3 (.agg #[.slice b1 b.clock.length dap1,.slice b2 b.lives.length dap2,.slice b3 b.tals.length dap3]) ?_;refine wpAnyH_ready (rs:=[4,5]) (by kernel_rfl) (by simp) ?_;refine(rdc rfl (fun K hK=>?_) (rd1 rfl (fun K hK=>?_)))
   ·skip
    go_simp;have hb_4:=bpl wd (.cells #[.slice none 0 0,.slice none 0 0,.slice none 0 0] 27);have M_4:=Box.new wd [.slice none 0 0,.slice none 0 0,.slice none 0 0] 27;have ge_g_4:w25.heap.size≤wd.heap.size:=hgd.size;obtain⟨w_4,Hw_4⟩:∃W,Hid (wd.alloc (.cells #[.slice none 0 0,.slice none 0 0,.slice none 0 0] 27)=W):=⟨_,rfl⟩;rw[Hw_4.out]at hb_4 M_4 ⊢;obtain⟨g_4,Hg_4⟩:∃g,Hid (wd.heap.size=g):=⟨_,rfl⟩;rw[Hg_4.out]at M_4 ge_g_4 ⊢;have hg_4:Zh w25 w_4:=Zd hgd hb_4;refine hK.out _ _ (HK13.out _ hg_4) (fun _=>?_);clear hK K
    try simp only[Act.put,Zt,Zs,Zr]
    refine wr 5 fun K hK=>?_;go_simp;have hb_a:=bpl w_4 (.cells #[.slice none 0 0,.slice none 0 0,.slice none 0 0] 27);have T_a:=Box.new w_4 [.slice none 0 0,.slice none 0 0,.slice none 0 0] 27;have ge_g_a:w25.heap.size≤w_4.heap.size:=hg_4.size;have lt_g_a:=M_4.lt;obtain⟨w_a,Hw_a⟩:∃W,Hid (w_4.alloc (.cells #[.slice none 0 0,.slice none 0 0,.slice none 0 0] 27)=W):=⟨_,rfl⟩;rw[Hw_a.out]at hb_a T_a ⊢;obtain⟨g_a,Hg_a⟩:∃g,Hid (w_4.heap.size=g):=⟨_,rfl⟩;rw[Hg_a.out]at T_a ge_g_a lt_g_a ⊢;have hg_a:Zh w25 w_a:=Zd hg_4 hb_a;have M_a:=M_4.below hb_a (nlr _);refine hK.out _ _ (HK13.out _ hg_a) (fun _=>?_);clear hK K
    try simp only[Act.put,Zt,Zs,Zr]
    refine wr 6 fun K hK=>?_;have c0:=M_a.get 0 rfl;have n0:=M_a.free 0;have c1:=M_a.get 1 rfl;have n1:=M_a.free 1;have c2:=M_a.get 2 rfl;have n2:=M_a.free 2;go_simp;have M_c:=(((M_a.set 0 (.slice a1 a.clock.length cap1)).set 1 (.slice a2 a.lives.length cap2)).set 2 (.slice a3 a.tals.length cap3));simp only[Zs,Zr]at M_c;have gg_c:Zh w25 _:=(Below.setCell (Below.setCell (Below.setCell hg_a (p:=⟨g_4,0,none⟩) ge_g_4 (.slice a1 a.clock.length cap1)) (p:=⟨g_4,1,none⟩) ge_g_4 (.slice a2 a.lives.length cap2)) (p:=⟨g_4,2,none⟩) ge_g_4 (.slice a3 a.tals.length cap3));have ne_c:g_a≠g_4:=by omega
    have T_c:=(((T_a.away (i:=0) (v:=.slice a1 a.clock.length cap1) ne_c).away (i:=1) (v:=.slice a2 a.lives.length cap2) ne_c).away (i:=2) (v:=.slice a3 a.tals.length cap3) ne_c);obtain⟨w_c,Hw_c⟩:∃W,Hid ((((w_a.setCell ⟨g_4,0,none⟩ (.slice a1 a.clock.length cap1)).setCell ⟨g_4,1,none⟩ (.slice a2 a.lives.length cap2)).setCell ⟨g_4,2,none⟩ (.slice a3 a.tals.length cap3))=W):=⟨_,rfl⟩;rw[Hw_c.out]at M_c gg_c T_c ⊢;clear c0 c1 c2 n0 n1 n2;have hg_c:Zh w25 w_c:=gg_c;refine hK.out _ _ (HK13.out _ hg_c) (fun _=>?_);clear hK K
    try simp only[Act.put,Zt,Zs,Zr]
    refine wr 7 fun K hK=>?_;have c0:=T_c.get 0 rfl;have n0:=T_c.free 0;have c1:=T_c.get 1 rfl;have n1:=T_c.free 1;have c2:=T_c.get 2 rfl;have n2:=T_c.free 2;go_simp;have T_e:=(((T_c.set 0 (.slice b1 b.clock.length dap1)).set 1 (.slice b2 b.lives.length dap2)).set 2 (.slice b3 b.tals.length dap3));simp only[Zs,Zr]at T_e;have gg_e:Zh w25 _:=(Below.setCell (Below.setCell (Below.setCell hg_c (p:=⟨g_a,0,none⟩) ge_g_a (.slice b1 b.clock.length dap1)) (p:=⟨g_a,1,none⟩) ge_g_a (.slice b2 b.lives.length dap2)) (p:=⟨g_a,2,none⟩) ge_g_a (.slice b3 b.tals.length dap3));have ne_e:g_4≠g_a:=by omega
    have M_e:=(((M_c.away (i:=0) (v:=.slice b1 b.clock.length dap1) ne_e).away (i:=1) (v:=.slice b2 b.lives.length dap2) ne_e).away (i:=2) (v:=.slice b3 b.tals.length dap3) ne_e);obtain⟨w_e,Hw_e⟩:∃W,Hid ((((w_c.setCell ⟨g_a,0,none⟩ (.slice b1 b.clock.length dap1)).setCell ⟨g_a,1,none⟩ (.slice b2 b.lives.length dap2)).setCell ⟨g_a,2,none⟩ (.slice b3 b.tals.length dap3))=W):=⟨_,rfl⟩;rw[Hw_e.out]at T_e gg_e M_e ⊢;clear c0 c1 c2 n0 n1 n2;have hg_e:Zh w25 w_e:=gg_e;refine hK.out _ _ (HK13.out _ hg_e) (fun _=>?_);clear hK K
    try simp only[Act.put,Zt,Zs,Zr]
    refine wpAnyH_done (by kernel_rfl) ?_ _
    go_wp2_with fail
    go_meet
    exact⟨_,_,rfl,rfl,M_e,T_e,⟨ge_g_4,ge_g_a⟩,hg_e⟩
   skip
   go_simp;have hb_5:=bpl wd (.cells #[.slice none 0 0,.slice none 0 0,.slice none 0 0] 27);have T_5:=Box.new wd [.slice none 0 0,.slice none 0 0,.slice none 0 0] 27;have ge_g_5:w25.heap.size≤wd.heap.size:=hgd.size;obtain⟨w_5,Hw_5⟩:∃W,Hid (wd.alloc (.cells #[.slice none 0 0,.slice none 0 0,.slice none 0 0] 27)=W):=⟨_,rfl⟩;rw[Hw_5.out]at hb_5 T_5 ⊢;obtain⟨g_5,Hg_5⟩:∃g,Hid (wd.heap.size=g):=⟨_,rfl⟩;rw[Hg_5.out]at T_5 ge_g_5 ⊢;have hg_5:Zh w25 w_5:=Zd hgd hb_5;refine hK.out _ _ (HK13.out _ hg_5) (fun _=>?_);clear hK K
   try simp only[Act.put,Zt,Zs,Zr]
   refine wr 4 fun K hK=>?_;go_simp;have hb_b:=bpl w_5 (.cells #[.slice none 0 0,.slice none 0 0,.slice none 0 0] 27);have M_b:=Box.new w_5 [.slice none 0 0,.slice none 0 0,.slice none 0 0] 27;have ge_g_b:w25.heap.size≤w_5.heap.size:=hg_5.size;have lt_g_b:=T_5.lt;obtain⟨w_b,Hw_b⟩:∃W,Hid (w_5.alloc (.cells #[.slice none 0 0,.slice none 0 0,.slice none 0 0] 27)=W):=⟨_,rfl⟩;rw[Hw_b.out]at hb_b M_b ⊢;obtain⟨g_b,Hg_b⟩:∃g,Hid (w_5.heap.size=g):=⟨_,rfl⟩;rw[Hg_b.out]at M_b ge_g_b lt_g_b ⊢;have hg_b:Zh w25 w_b:=Zd hg_5 hb_b;have T_b:=T_5.below hb_b (nlr _);refine hK.out _ _ (HK13.out _ hg_b) (fun _=>?_);clear hK K
   try simp only[Act.put,Zt,Zs,Zr]
   refine wr 6 fun K hK=>?_;have c0:=M_b.get 0 rfl;have n0:=M_b.free 0;have c1:=M_b.get 1 rfl;have n1:=M_b.free 1;have c2:=M_b.get 2 rfl;have n2:=M_b.free 2;go_simp;have M_d:=(((M_b.set 0 (.slice a1 a.clock.length cap1)).set 1 (.slice a2 a.lives.length cap2)).set 2 (.slice a3 a.tals.length cap3));simp only[Zs,Zr]at M_d;have gg_d:Zh w25 _:=(Below.setCell (Below.setCell (Below.setCell hg_b (p:=⟨g_b,0,none⟩) ge_g_b (.slice a1 a.clock.length cap1)) (p:=⟨g_b,1,none⟩) ge_g_b (.slice a2 a.lives.length cap2)) (p:=⟨g_b,2,none⟩) ge_g_b (.slice a3 a.tals.length cap3));have ne_d:g_5≠g_b:=by omega
   have T_d:=(((T_b.away (i:=0) (v:=.slice a1 a.clock.length cap1) ne_d).away (i:=1) (v:=.slice a2 a.lives.length cap2) ne_d).away (i:=2) (v:=.slice a3 a.tals.length cap3) ne_d);obtain⟨w_d,Hw_d⟩:∃W,Hid ((((w_b.setCell ⟨g_b,0,none⟩ (.slice a1 a.clock.length cap1)).setCell ⟨g_b,1,none⟩ (.slice a2 a.lives.length cap2)).setCell ⟨g_b,2,none⟩ (.slice a3 a.tals.length cap3))=W):=⟨_,rfl⟩;rw[Hw_d.out]at M_d gg_d T_d ⊢;clear c0 c1 c2 n0 n1 n2;have hg_d:Zh w25 w_d:=gg_d;refine hK.out _ _ (HK13.out _ hg_d) (fun _=>?_);clear hK K
   try simp only[Act.put,Zt,Zs,Zr]
   refine wr 7 fun K hK=>?_;have c0:=T_d.get 0 rfl;have n0:=T_d.free 0;have c1:=T_d.get 1 rfl;have n1:=T_d.free 1;have c2:=T_d.get 2 rfl;have n2:=T_d.free 2;go_simp;have T_f:=(((T_d.set 0 (.slice b1 b.clock.length dap1)).set 1 (.slice b2 b.lives.length dap2)).set 2 (.slice b3 b.tals.length dap3));simp only[Zs,Zr]at T_f;have gg_f:Zh w25 _:=(Below.setCell (Below.setCell (Below.setCell hg_d (p:=⟨g_5,0,none⟩) ge_g_5 (.slice b1 b.clock.length dap1)) (p:=⟨g_5,1,none⟩) ge_g_5 (.slice b2 b.lives.length dap2)) (p:=⟨g_5,2,none⟩) ge_g_5 (.slice b3 b.tals.length dap3));have ne_f:g_b≠g_5:=by omega
   have M_f:=(((M_d.away (i:=0) (v:=.slice b1 b.clock.length dap1) ne_f).away (i:=1) (v:=.slice b2 b.lives.length dap2) ne_f).away (i:=2) (v:=.slice b3 b.tals.length dap3) ne_f);obtain⟨w_f,Hw_f⟩:∃W,Hid ((((w_d.setCell ⟨g_5,0,none⟩ (.slice b1 b.clock.length dap1)).setCell ⟨g_5,1,none⟩ (.slice b2 b.lives.length dap2)).setCell ⟨g_5,2,none⟩ (.slice b3 b.tals.length dap3))=W):=⟨_,rfl⟩;rw[Hw_f.out]at T_f gg_f M_f ⊢;clear c0 c1 c2 n0 n1 n2;have hg_f:Zh w25 w_f:=gg_f;refine hK.out _ _ (HK13.out _ hg_f) (fun _=>?_);clear hK K
   try simp only[Act.put,Zt,Zs,Zr]
   refine wpAnyH_done (by kernel_rfl) ?_ _
   go_wp2_with fail
   go_meet
   exact⟨_,_,rfl,rfl,M_f,T_f,⟨ge_g_b,ge_g_5⟩,hg_f⟩
  obtain⟨gm,gt,rfl,rfl,HM26,HT26,HGG,HGR⟩:=hcut;obtain⟨w26,rfl⟩:∃w26,w26=wc:=⟨wc,rfl⟩;have HJ26:=Za (HJ25.below HGR.out);have L26:=Za (L25.below HGR.out (nlr _));have hgo:go<w25.heap.size:=HJ25.box.lt;have hnm:¬gm=go:=by have:=HGG.out;omega
  have hnt:¬gt=go:=by have:=HGG.out;omega
  have HNM:=Za hnm;have HNT:=Za hnt;have HFW:=Za HOA.few;have HGLN:Hid (¬gl=go):=by unfold Hid;have:=HGL.out;omega
  clear HJ25 L25 B25 HB25 HK13 hgo hnm hnt HGR;have m1:=HM26.get 1 rfl;have hml:a.lives.length≤400000000:=HFW.1
  go_wp2_with fail
  clear m1
  go_loopw [68] (fun i wr=>∃(j:Nat) (lv:Value),j≤a.lives.length∧i=.int .i64 j∧Hid (JI W1 wr W1.heap.size go (.slice ra J.length rcap) lv (.slice none 0 0) J (Ya b [] (a.lives.take j)) [])∧Hid (Box wr gl [.slice a1 a.clock.length cap1,.slice a2 a.lives.length cap2,.slice a3 a.tals.length cap3,.slice b1 b.clock.length dap1,.slice b2 b.lives.length dap2,.slice b3 b.tals.length dap3,.slice b1 b.clock.length dap1,.slice b2 b.lives.length dap2,.slice b3 b.tals.length dap3,.slice a1 a.clock.length cap1,.slice a2 a.lives.length cap2,.slice a3 a.tals.length cap3] 141)∧Hid (Box wr gm [.slice a1 a.clock.length cap1,.slice a2 a.lives.length cap2,.slice a3 a.tals.length cap3] 27)∧Hid (Box wr gt [.slice b1 b.clock.length dap1,.slice b2 b.lives.length dap2,.slice b3 b.tals.length dap3] 27)) (fun i _=>a.lives.length - (intOf i).toNat)
  case atStart=>exact⟨0,_,Nat.zero_le _,rfl,HJ26,L26,HM26,HT26⟩
  obtain⟨j,lv,hj,rfl,HJ27,L27,HM27,HT27⟩:=hrel;obtain⟨w27,rfl⟩:∃w27,w27=wr:=⟨wr,rfl⟩;clear HJ26 L26 HM26 HT26
  by_cases hlt:j<a.lives.length
  ·have hlt':(j:Int)<(a.lives.length:Int):=by omega
   obtain⟨x,HX⟩:∃x,Hid (a.lives[j]? =some x):=⟨_,List.getElem?_eq_getElem hlt⟩;have HOK:=Za (HOA.lives x (List.mem_of_getElem? HX.out));obtain⟨xs,xk,xi,xu,xq⟩:=x;obtain⟨au,hau⟩:∃au:Nat,xu=au:=⟨xu.toNat,by have:=HOK.1;simp only at this;omega⟩;subst hau;have HSN:=Za (refLives_snoc (th:=b) (out:=[]) HX.out);obtain⟨LL,HLL⟩:∃LL,Hid (Ya b [] (a.lives.take j)=LL):=⟨_,rfl⟩;rw[HLL.out]at HSN HJ27
   have HLN:Hid (LL.length≤800000000):=by
    have h1:=Qh (th:=b) (l:=a.lives.take j) (out:=[]);have h2:=List.length_take (i:=j) (l:=a.lives);have h3:=(joinL_len (a:=a) (b:=b)).1;have h4:=HOA.few.1;have h5:=HOB.few.1;rw[HLL.out]at h1;unfold Hid;simp only[List.length_nil]at h1;omega
   obtain⟨eb,eo,hea,d0,d1,d2,d3,d4⟩:=Va (SS.below HJ27.bl (nlr _)).parts.2.1 HX.out;subst hea;have hbp:=bpl w27 (.cells #[.bool xs,.int .i64 xk,.int .i64 xi,.int .i64 (au:Int),.int .i64 xq] 106);have X28:=Box.new w27 [.bool xs,.int .i64 xk,.int .i64 xi,.int .i64 (au:Int),.int .i64 xq] 106;have J28:=HJ27.below hbp;have L28:=Za (L27.below hbp (nlr _));have M28:=Za (HM27.below hbp (nlr _));have T28:=Za (HT27.below hbp (nlr _));obtain⟨gx,HGX⟩:∃gx,Hid (w27.heap.size=gx):=⟨_,rfl⟩;have hgx:¬gx=go:=by rw[←HGX.out];have:=HJ27.box.lt;omega
   have HNX:=Za hgx;obtain⟨w28,HW28⟩:∃W,Hid (w27.alloc (.cells #[.bool xs,.int .i64 xk,.int .i64 xi,.int .i64 (au:Int),.int .i64 xq] 106)=W):=⟨_,rfl⟩;rw[HW28.out]at X28 J28 L28 M28 T28;rw[HGX.out]at X28;have HJ28:=Za J28;have HX28:=Za X28;clear hbp X28 J28 HJ27 L27 HM27 HT27 hgx
   go_upto_region 17 with fail
   rw[HW28.out,HGX.out];clear d0 d1 d2 d3 d4;have b1:=HJ28.box.get 1 rfl;obtain⟨x0,x1,x2,x3,x4⟩:=HX28.c5
   go_wp2_with fail
   refine(yE _ LL ⟨xs,xk,xi,au,xq⟩ _ (Zl Ze HJ28.lv)).mono ?_;rintro e w29 ⟨rfl,hb29⟩;have HJ29:=Za (HJ28.below hb29);have L29:=Za (L28.below hb29 (nlr _));have M29:=Za (M28.below hb29 (nlr _));have T29:=Za (T28.below hb29 (nlr _));have X29:=Za (HX28.below hb29 (nlr _));clear b1 x0 x1 x2 x3 x4 hb29 HJ28 L28 M28 T28 HX28
   by_cases hh:hasL LL ⟨xs,xk,xi,au,xq⟩=true
   ·rw[show isIn LL ⟨xs,xk,xi,au,xq⟩=true from hh];have HS1:Hid (Ya b [] (a.lives.take (j+1))=LL):=by unfold Hid;rw[HSN.out];unfold Ji;rw[if_pos hh]
    clear hh
    go_wp2_with fail
    go_roundw
    case rel=>exact⟨j+1,lv,by omega,by go_num,by rw[HS1.out];exact HJ29,L29,M29,T29⟩
    case measure=>simp[intOf];omega
   have hh':hasL LL ⟨xs,xk,xi,au,xq⟩=false:=by simpa using hh
   rw[show isIn LL ⟨xs,xk,xi,au,xq⟩=false from hh'];obtain⟨y,HY⟩:∃y,Hid (b.clock.getD au 0=y):=⟨_,rfl⟩
   have HAU:Hid (au<b.clock.length):=by
    have h1:=HOK.2.1;have h2:=Zm.1 HOB.clock;unfold Hid
    simp only at h1
    omega
   obtain⟨cb,co,hcb,ck⟩:=rowAt (TT.below HJ29.bl (nlr _)).parts.1 HAU.out;rw[HY.out]at ck;subst hcb;have hau':(au:Int)<(b.clock.length:Int):=by have:=HAU.out;omega
   have hau0:¬(au:Int)<0:=by omega
   have ST29:=Za (TT.below HJ29.bl (nlr _)).parts.2.1;have HK:=Za fun w' (hg:Zh w29 w')=>And.intro (T29.below hg (nlr _)).c2 (And.intro (Of hg ck) (X29.below hg (nlr _)).c5);obtain⟨h2,HH2⟩:∃h2,Hid (hasL b.lives ⟨xs,xk,xi,au,xq⟩=h2):=⟨_,rfl⟩
   go_upto_region 18 with fail
   clear ck
   go_cut [90] (fun c wx=>c=.bool (h2||decide (y<xq))∧Hid (Zh w29 wx))
   case first=>
    cases h2 with
    |true=>
     refine rgn HK.out fun wd hgd hHeld=>?_;refine ty 0 (.pointer (some ⟨gt,1,none⟩)) ?_;refine ty 1 (.slice b2 b.lives.length dap2) ?_;refine ty 2 (.agg #[.bool xs,.int .i64 xk,.int .i64 xi,.int .i64 (au:Int),.int .i64 xq]) ?_;refine wr 3 fun K hK=>?_;go_simp;refine(yE _ b.lives ⟨xs,xk,xi,au,xq⟩ _ (ST29.below hgd (nlr _))).mono ?_;rintro e w_3 ⟨rfl,hb_3⟩;rw[show isIn b.lives ⟨xs,xk,xi,au,xq⟩=true from HH2.out];have hg_3:Zh w29 w_3:=Zd hgd hb_3;refine hK.out _ _ (HK.out _ hg_3) (fun _=>?_);clear hK K
     try simp only[Act.put,Zt,Zs,Zr]
     refine ty 4 (.bool true) ?_;refine ts 5 ?_;refine ts 6 ?_;refine ts 7 ?_;refine ts 8 ?_;refine ts 9 ?_;refine ts 10 ?_;refine ts 11 ?_;refine ts 12 ?_;refine ts 13 ?_;refine ty 14 (.bool true) ?_;refine wpAnyH_done (by kernel_rfl) ?_ _
     go_wp2_with fail
     go_meet
     exact⟨by simp,hg_3⟩
    |false=>
     by_cases hlt2:y<xq
     ·skip
      refine rgn HK.out fun wd hgd hHeld=>?_;refine ty 0 (.pointer (some ⟨gt,1,none⟩)) ?_;refine ty 1 (.slice b2 b.lives.length dap2) ?_;refine ty 2 (.agg #[.bool xs,.int .i64 xk,.int .i64 xi,.int .i64 (au:Int),.int .i64 xq]) ?_;refine wr 3 fun K hK=>?_;go_simp;refine(yE _ b.lives ⟨xs,xk,xi,au,xq⟩ _ (ST29.below hgd (nlr _))).mono ?_;rintro e w_3 ⟨rfl,hb_3⟩;rw[show isIn b.lives ⟨xs,xk,xi,au,xq⟩=false from HH2.out];have hg_3:Zh w29 w_3:=Zd hgd hb_3;refine hK.out _ _ (HK.out _ hg_3) (fun _=>?_);clear hK K
      try simp only[Act.put,Zt,Zs,Zr]
      refine ty 4 (.bool false) ?_;refine ty 5 (.pointer (some ⟨gt,0,none⟩)) ?_;refine ty 6 (.slice (some ⟨cb,co,none⟩) b.clock.length dap1) ?_;refine ty 7 (.pointer (some ⟨gx,3,none⟩)) ?_;refine ty 8 (.int .i64 (au:Int)) ?_;refine ty 9 (.pointer (some ⟨cb,co+au,none⟩)) ?_;refine ty 10 (.int .i64 y) ?_;refine ty 11 (.pointer (some ⟨gx,4,none⟩)) ?_;refine ty 12 (.int .i64 xq) ?_;refine ty 13 (.bool true) ?_;refine ty 14 (.bool true) ?_;refine wpAnyH_done (by kernel_rfl) ?_ _
      go_wp2_with fail
      go_meet
      exact⟨by simp[hlt2],hg_3⟩
     skip
     refine rgn HK.out fun wd hgd hHeld=>?_;refine ty 0 (.pointer (some ⟨gt,1,none⟩)) ?_;refine ty 1 (.slice b2 b.lives.length dap2) ?_;refine ty 2 (.agg #[.bool xs,.int .i64 xk,.int .i64 xi,.int .i64 (au:Int),.int .i64 xq]) ?_;refine wr 3 fun K hK=>?_;go_simp;refine(yE _ b.lives ⟨xs,xk,xi,au,xq⟩ _ (ST29.below hgd (nlr _))).mono ?_;rintro e w_3 ⟨rfl,hb_3⟩;rw[show isIn b.lives ⟨xs,xk,xi,au,xq⟩=false from HH2.out];have hg_3:Zh w29 w_3:=Zd hgd hb_3;refine hK.out _ _ (HK.out _ hg_3) (fun _=>?_);clear hK K
     try simp only[Act.put,Zt,Zs,Zr]
     refine ty 4 (.bool false) ?_;refine ty 5 (.pointer (some ⟨gt,0,none⟩)) ?_;refine ty 6 (.slice (some ⟨cb,co,none⟩) b.clock.length dap1) ?_;refine ty 7 (.pointer (some ⟨gx,3,none⟩)) ?_;refine ty 8 (.int .i64 (au:Int)) ?_;refine ty 9 (.pointer (some ⟨cb,co+au,none⟩)) ?_;refine ty 10 (.int .i64 y) ?_;refine ty 11 (.pointer (some ⟨gx,4,none⟩)) ?_;refine ty 12 (.int .i64 xq) ?_;refine ty 13 (.bool false) ?_;refine ty 14 (.bool false) ?_;refine wpAnyH_done (by kernel_rfl) ?_ _
     go_wp2_with fail
     go_meet
     exact⟨by simp[hlt2],hg_3⟩
   obtain⟨rfl,HGR⟩:=hcut;obtain⟨w30,rfl⟩:∃w30,w30=wc:=⟨wc,rfl⟩;have HJ30:=Za (HJ29.below HGR.out);have L30:=Za (L29.below HGR.out (nlr _));have M30:=Za (M29.below HGR.out (nlr _));have T30:=Za (T29.below HGR.out (nlr _));have X30:=Za (X29.below HGR.out (nlr _));clear HJ29 L29 M29 T29 X29 HGR HK
   have HST:Hid (Ya b [] (a.lives.take (j+1))=if(h2||decide (y<xq))=true then Js ⟨xs,xk,xi,au,xq⟩ LL else LL):=by
    unfold Hid;rw[HSN.out];unfold Ji;rw[if_neg hh,HH2.out];simp only[Int.toNat_natCast,HY.out,Bool.or_eq_true,decide_eq_true_eq]
   clear hh hh';obtain⟨c,HC⟩:∃c,Hid ((h2||decide (y<xq))=c):=⟨_,rfl⟩;rw[HC.out]at HST ⊢
   cases c with
   |false=>
    rw[if_neg (by simp)]at HST
    go_wp2_with fail
    go_roundw
    case rel=>exact⟨j+1,lv,by omega,by go_num,by rw[HST.out];exact HJ30,L30,M30,T30⟩
    case measure=>simp[intOf];omega
   |true=>
    rw[if_pos rfl]at HST;have b1:=HJ30.box.get 1 rfl;obtain⟨x0,x1,x2,x3,x4⟩:=X30.c5
    go_wp2_with fail
    refine(put_ref _ LL ⟨xs,xk,xi,au,xq⟩ _ (Zl Ze HJ30.lv) (Nat.le_trans HLN.out (by decide))).mono ?_;rintro e w31 ⟨pv,rfl,hP,hb31⟩;obtain⟨NL,HNL⟩:∃NL,Hid (Js ⟨xs,xk,xi,au,xq⟩ LL=NL):=⟨_,rfl⟩;rw[HNL.out]at hP HST;obtain⟨pa,pcap,hpv,-⟩:=Zl Ze hP;subst hpv;have J31:=HJ30.below hb31;have P31:Xm 106 5 Zv w31 W1.heap.size (.slice pa NL.length pcap) NL:=Zw hP HJ30.bl.size;have HJ32:=Za (J31.setL P31);have L32:=Za ((L30.below hb31 (nlr _)).away (i:=1) (v:=.slice pa NL.length pcap) HGLN.out);have M32:=Za ((M30.below hb31 (nlr _)).away (i:=1) (v:=.slice pa NL.length pcap) HNM.out);have T32:=Za ((T30.below hb31 (nlr _)).away (i:=1) (v:=.slice pa NL.length pcap) HNT.out);have b1':=J31.box.get 1 rfl;have f1':=J31.box.free 1;clear b1 x0 x1 x2 x3 x4 hP hb31 HJ30 L30 M30 T30 X30
    go_wp2_with fail
    go_roundw
    case rel=>exact⟨j+1,_,by omega,by go_num,by rw[HST.out];exact HJ32,L32,M32,T32⟩
    case measure=>simp[intOf];omega
  have hlt':¬(j:Int)<(a.lives.length:Int):=by omega
  have hjl:a.lives.take j=a.lives:=List.take_of_length_le (by omega);rw[hjl]at HJ27;clear hjl
  go_wp2_with fail
  go_roundw
  case rel=>exact⟨1,lv,_,.inr (.inl rfl),by go_num,fun h=>by omega,fun _=>rfl,fun h=>by omega,HJ27,L27⟩
  case measure=>simp[intOf]
 ·skip
  have hLL:L=(Ya b [] a.lives):=HL1.out rfl;subst hLL;clear HL0 HL1 HL2;have y0:=L24.get 6 rfl;have y1:=L24.get 7 rfl;have y2:=L24.get 8 rfl;have y3:=L24.get 9 rfl;have y4:=L24.get 10 rfl;have y5:=L24.get 11 rfl;have hbp:=bpl w24 (.cells #[.slice b1 b.clock.length dap1,.slice b2 b.lives.length dap2,.slice b3 b.tals.length dap3,.slice a1 a.clock.length cap1,.slice a2 a.lives.length cap2,.slice a3 a.tals.length cap3] 141);have B25:=Box.new w24 [.slice b1 b.clock.length dap1,.slice b2 b.lives.length dap2,.slice b3 b.tals.length dap3,.slice a1 a.clock.length cap1,.slice a2 a.lives.length cap2,.slice a3 a.tals.length cap3] 141;have J25:=HJ24.below hbp;have L25:=Za (L24.below hbp (nlr _));obtain⟨gw,HGW⟩:∃gw,Hid (w24.heap.size=gw):=⟨_,rfl⟩;obtain⟨w25,HW25⟩:∃W,Hid (w24.alloc (.cells #[.slice b1 b.clock.length dap1,.slice b2 b.lives.length dap2,.slice b3 b.tals.length dap3,.slice a1 a.clock.length cap1,.slice a2 a.lives.length cap2,.slice a3 a.tals.length cap3] 141)=W):=⟨_,rfl⟩;rw[HW25.out]at B25 J25 L25;rw[HGW.out]at B25;have HJ25:=Za J25;clear hbp J25 HJ24 L24
  go_upto_region 13 with fail
  rw[HW25.out,HGW.out];clear y0 y1 y2 y3 y4 y5;have HB25:=Za B25;have HK13:=Za fun w' (hg:Zh w25 w')=>(HB25.below hg (nlr _)).c6
  go_cut [13,14] (fun p s wx=>∃gm gt,p=.pointer (some ⟨gm,0,none⟩)∧s=.pointer (some ⟨gt,0,none⟩)∧Hid (Box wx gm [.slice b1 b.clock.length dap1,.slice b2 b.lives.length dap2,.slice b3 b.tals.length dap3] 27)∧Hid (Box wx gt [.slice a1 a.clock.length cap1,.slice a2 a.lives.length cap2,.slice a3 a.tals.length cap3] 27)∧Hid (w25.heap.size≤gm∧w25.heap.size≤gt)∧Hid (Zh w25 wx))
  case first=>
   refine rgn HK13.out fun wd hgd hHeld=>?_;refine ty 0 (.pointer (some ⟨gw,0,none⟩)) ?_;refine ty 1 (.agg #[.slice b1 b.clock.length dap1,.slice b2 b.lives.length dap2,.slice b3 b.tals.length dap3]) ?_;refine ty 2 (.pointer (some ⟨gw,3,none⟩)) ?_;refine ty 3 (.agg #[.slice a1 a.clock.length cap1,.slice a2 a.lives.length cap2,.slice a3 a.tals.length cap3]) ?_;refine wpAnyH_ready (rs:=[4,5]) (by kernel_rfl) (by simp) ?_;refine(rdc rfl (fun K hK=>?_) (rd1 rfl (fun K hK=>?_)))
   ·skip
    go_simp;have hb_4:=bpl wd (.cells #[.slice none 0 0,.slice none 0 0,.slice none 0 0] 27);have M_4:=Box.new wd [.slice none 0 0,.slice none 0 0,.slice none 0 0] 27;have ge_g_4:w25.heap.size≤wd.heap.size:=hgd.size;obtain⟨w_4,Hw_4⟩:∃W,Hid (wd.alloc (.cells #[.slice none 0 0,.slice none 0 0,.slice none 0 0] 27)=W):=⟨_,rfl⟩;rw[Hw_4.out]at hb_4 M_4 ⊢;obtain⟨g_4,Hg_4⟩:∃g,Hid (wd.heap.size=g):=⟨_,rfl⟩;rw[Hg_4.out]at M_4 ge_g_4 ⊢;have hg_4:Zh w25 w_4:=Zd hgd hb_4;refine hK.out _ _ (HK13.out _ hg_4) (fun _=>?_);clear hK K
    try simp only[Act.put,Zt,Zs,Zr]
    refine wr 5 fun K hK=>?_;go_simp;have hb_a:=bpl w_4 (.cells #[.slice none 0 0,.slice none 0 0,.slice none 0 0] 27);have T_a:=Box.new w_4 [.slice none 0 0,.slice none 0 0,.slice none 0 0] 27;have ge_g_a:w25.heap.size≤w_4.heap.size:=hg_4.size;have lt_g_a:=M_4.lt;obtain⟨w_a,Hw_a⟩:∃W,Hid (w_4.alloc (.cells #[.slice none 0 0,.slice none 0 0,.slice none 0 0] 27)=W):=⟨_,rfl⟩;rw[Hw_a.out]at hb_a T_a ⊢;obtain⟨g_a,Hg_a⟩:∃g,Hid (w_4.heap.size=g):=⟨_,rfl⟩;rw[Hg_a.out]at T_a ge_g_a lt_g_a ⊢;have hg_a:Zh w25 w_a:=Zd hg_4 hb_a;have M_a:=M_4.below hb_a (nlr _);refine hK.out _ _ (HK13.out _ hg_a) (fun _=>?_);clear hK K
    try simp only[Act.put,Zt,Zs,Zr]
    refine wr 6 fun K hK=>?_;have c0:=M_a.get 0 rfl;have n0:=M_a.free 0;have c1:=M_a.get 1 rfl;have n1:=M_a.free 1;have c2:=M_a.get 2 rfl;have n2:=M_a.free 2;go_simp;have M_c:=(((M_a.set 0 (.slice b1 b.clock.length dap1)).set 1 (.slice b2 b.lives.length dap2)).set 2 (.slice b3 b.tals.length dap3));simp only[Zs,Zr]at M_c;have gg_c:Zh w25 _:=(Below.setCell (Below.setCell (Below.setCell hg_a (p:=⟨g_4,0,none⟩) ge_g_4 (.slice b1 b.clock.length dap1)) (p:=⟨g_4,1,none⟩) ge_g_4 (.slice b2 b.lives.length dap2)) (p:=⟨g_4,2,none⟩) ge_g_4 (.slice b3 b.tals.length dap3));have ne_c:g_a≠g_4:=by omega
    have T_c:=(((T_a.away (i:=0) (v:=.slice b1 b.clock.length dap1) ne_c).away (i:=1) (v:=.slice b2 b.lives.length dap2) ne_c).away (i:=2) (v:=.slice b3 b.tals.length dap3) ne_c);obtain⟨w_c,Hw_c⟩:∃W,Hid ((((w_a.setCell ⟨g_4,0,none⟩ (.slice b1 b.clock.length dap1)).setCell ⟨g_4,1,none⟩ (.slice b2 b.lives.length dap2)).setCell ⟨g_4,2,none⟩ (.slice b3 b.tals.length dap3))=W):=⟨_,rfl⟩;rw[Hw_c.out]at M_c gg_c T_c ⊢;clear c0 c1 c2 n0 n1 n2;have hg_c:Zh w25 w_c:=gg_c;refine hK.out _ _ (HK13.out _ hg_c) (fun _=>?_);clear hK K
    try simp only[Act.put,Zt,Zs,Zr]
    refine wr 7 fun K hK=>?_;have c0:=T_c.get 0 rfl;have n0:=T_c.free 0;have c1:=T_c.get 1 rfl;have n1:=T_c.free 1;have c2:=T_c.get 2 rfl;have n2:=T_c.free 2;go_simp;have T_e:=(((T_c.set 0 (.slice a1 a.clock.length cap1)).set 1 (.slice a2 a.lives.length cap2)).set 2 (.slice a3 a.tals.length cap3));simp only[Zs,Zr]at T_e;have gg_e:Zh w25 _:=(Below.setCell (Below.setCell (Below.setCell hg_c (p:=⟨g_a,0,none⟩) ge_g_a (.slice a1 a.clock.length cap1)) (p:=⟨g_a,1,none⟩) ge_g_a (.slice a2 a.lives.length cap2)) (p:=⟨g_a,2,none⟩) ge_g_a (.slice a3 a.tals.length cap3));have ne_e:g_4≠g_a:=by omega
    have M_e:=(((M_c.away (i:=0) (v:=.slice a1 a.clock.length cap1) ne_e).away (i:=1) (v:=.slice a2 a.lives.length cap2) ne_e).away (i:=2) (v:=.slice a3 a.tals.length cap3) ne_e);obtain⟨w_e,Hw_e⟩:∃W,Hid ((((w_c.setCell ⟨g_a,0,none⟩ (.slice a1 a.clock.length cap1)).setCell ⟨g_a,1,none⟩ (.slice a2 a.lives.length cap2)).setCell ⟨g_a,2,none⟩ (.slice a3 a.tals.length cap3))=W):=⟨_,rfl⟩;rw[Hw_e.out]at T_e gg_e M_e ⊢;clear c0 c1 c2 n0 n1 n2;have hg_e:Zh w25 w_e:=gg_e;refine hK.out _ _ (HK13.out _ hg_e) (fun _=>?_);clear hK K
    try simp only[Act.put,Zt,Zs,Zr]
    refine wpAnyH_done (by kernel_rfl) ?_ _
    go_wp2_with fail
    go_meet
    exact⟨_,_,rfl,rfl,M_e,T_e,⟨ge_g_4,ge_g_a⟩,hg_e⟩
   skip
   go_simp;have hb_5:=bpl wd (.cells #[.slice none 0 0,.slice none 0 0,.slice none 0 0] 27);have T_5:=Box.new wd [.slice none 0 0,.slice none 0 0,.slice none 0 0] 27;have ge_g_5:w25.heap.size≤wd.heap.size:=hgd.size;obtain⟨w_5,Hw_5⟩:∃W,Hid (wd.alloc (.cells #[.slice none 0 0,.slice none 0 0,.slice none 0 0] 27)=W):=⟨_,rfl⟩;rw[Hw_5.out]at hb_5 T_5 ⊢;obtain⟨g_5,Hg_5⟩:∃g,Hid (wd.heap.size=g):=⟨_,rfl⟩;rw[Hg_5.out]at T_5 ge_g_5 ⊢;have hg_5:Zh w25 w_5:=Zd hgd hb_5;refine hK.out _ _ (HK13.out _ hg_5) (fun _=>?_);clear hK K
   try simp only[Act.put,Zt,Zs,Zr]
   refine wr 4 fun K hK=>?_;go_simp;have hb_b:=bpl w_5 (.cells #[.slice none 0 0,.slice none 0 0,.slice none 0 0] 27);have M_b:=Box.new w_5 [.slice none 0 0,.slice none 0 0,.slice none 0 0] 27;have ge_g_b:w25.heap.size≤w_5.heap.size:=hg_5.size;have lt_g_b:=T_5.lt;obtain⟨w_b,Hw_b⟩:∃W,Hid (w_5.alloc (.cells #[.slice none 0 0,.slice none 0 0,.slice none 0 0] 27)=W):=⟨_,rfl⟩;rw[Hw_b.out]at hb_b M_b ⊢;obtain⟨g_b,Hg_b⟩:∃g,Hid (w_5.heap.size=g):=⟨_,rfl⟩;rw[Hg_b.out]at M_b ge_g_b lt_g_b ⊢;have hg_b:Zh w25 w_b:=Zd hg_5 hb_b;have T_b:=T_5.below hb_b (nlr _);refine hK.out _ _ (HK13.out _ hg_b) (fun _=>?_);clear hK K
   try simp only[Act.put,Zt,Zs,Zr]
   refine wr 6 fun K hK=>?_;have c0:=M_b.get 0 rfl;have n0:=M_b.free 0;have c1:=M_b.get 1 rfl;have n1:=M_b.free 1;have c2:=M_b.get 2 rfl;have n2:=M_b.free 2;go_simp;have M_d:=(((M_b.set 0 (.slice b1 b.clock.length dap1)).set 1 (.slice b2 b.lives.length dap2)).set 2 (.slice b3 b.tals.length dap3));simp only[Zs,Zr]at M_d;have gg_d:Zh w25 _:=(Below.setCell (Below.setCell (Below.setCell hg_b (p:=⟨g_b,0,none⟩) ge_g_b (.slice b1 b.clock.length dap1)) (p:=⟨g_b,1,none⟩) ge_g_b (.slice b2 b.lives.length dap2)) (p:=⟨g_b,2,none⟩) ge_g_b (.slice b3 b.tals.length dap3));have ne_d:g_5≠g_b:=by omega
   have T_d:=(((T_b.away (i:=0) (v:=.slice b1 b.clock.length dap1) ne_d).away (i:=1) (v:=.slice b2 b.lives.length dap2) ne_d).away (i:=2) (v:=.slice b3 b.tals.length dap3) ne_d);obtain⟨w_d,Hw_d⟩:∃W,Hid ((((w_b.setCell ⟨g_b,0,none⟩ (.slice b1 b.clock.length dap1)).setCell ⟨g_b,1,none⟩ (.slice b2 b.lives.length dap2)).setCell ⟨g_b,2,none⟩ (.slice b3 b.tals.length dap3))=W):=⟨_,rfl⟩;rw[Hw_d.out]at M_d gg_d T_d ⊢;clear c0 c1 c2 n0 n1 n2;have hg_d:Zh w25 w_d:=gg_d;refine hK.out _ _ (HK13.out _ hg_d) (fun _=>?_);clear hK K
   try simp only[Act.put,Zt,Zs,Zr]
   refine wr 7 fun K hK=>?_;have c0:=T_d.get 0 rfl;have n0:=T_d.free 0;have c1:=T_d.get 1 rfl;have n1:=T_d.free 1;have c2:=T_d.get 2 rfl;have n2:=T_d.free 2;go_simp;have T_f:=(((T_d.set 0 (.slice a1 a.clock.length cap1)).set 1 (.slice a2 a.lives.length cap2)).set 2 (.slice a3 a.tals.length cap3));simp only[Zs,Zr]at T_f;have gg_f:Zh w25 _:=(Below.setCell (Below.setCell (Below.setCell hg_d (p:=⟨g_5,0,none⟩) ge_g_5 (.slice a1 a.clock.length cap1)) (p:=⟨g_5,1,none⟩) ge_g_5 (.slice a2 a.lives.length cap2)) (p:=⟨g_5,2,none⟩) ge_g_5 (.slice a3 a.tals.length cap3));have ne_f:g_b≠g_5:=by omega
   have M_f:=(((M_d.away (i:=0) (v:=.slice a1 a.clock.length cap1) ne_f).away (i:=1) (v:=.slice a2 a.lives.length cap2) ne_f).away (i:=2) (v:=.slice a3 a.tals.length cap3) ne_f);obtain⟨w_f,Hw_f⟩:∃W,Hid ((((w_d.setCell ⟨g_5,0,none⟩ (.slice a1 a.clock.length cap1)).setCell ⟨g_5,1,none⟩ (.slice a2 a.lives.length cap2)).setCell ⟨g_5,2,none⟩ (.slice a3 a.tals.length cap3))=W):=⟨_,rfl⟩;rw[Hw_f.out]at T_f gg_f M_f ⊢;clear c0 c1 c2 n0 n1 n2;have hg_f:Zh w25 w_f:=gg_f;refine hK.out _ _ (HK13.out _ hg_f) (fun _=>?_);clear hK K
   try simp only[Act.put,Zt,Zs,Zr]
   refine wpAnyH_done (by kernel_rfl) ?_ _
   go_wp2_with fail
   go_meet
   exact⟨_,_,rfl,rfl,M_f,T_f,⟨ge_g_b,ge_g_5⟩,hg_f⟩
  obtain⟨gm,gt,rfl,rfl,HM26,HT26,HGG,HGR⟩:=hcut;obtain⟨w26,rfl⟩:∃w26,w26=wc:=⟨wc,rfl⟩;have HJ26:=Za (HJ25.below HGR.out);have L26:=Za (L25.below HGR.out (nlr _));have hgo:go<w25.heap.size:=HJ25.box.lt;have hnm:¬gm=go:=by have:=HGG.out;omega
  have hnt:¬gt=go:=by have:=HGG.out;omega
  have HNM:=Za hnm;have HNT:=Za hnt;have HFW:=Za HOB.few;have HGLN:Hid (¬gl=go):=by unfold Hid;have:=HGL.out;omega
  clear HJ25 L25 B25 HB25 HK13 hgo hnm hnt HGR;have m1:=HM26.get 1 rfl;have hml:b.lives.length≤400000000:=HFW.1
  go_wp2_with fail
  clear m1
  go_loopw [68] (fun i wr=>∃(j:Nat) (lv:Value),j≤b.lives.length∧i=.int .i64 j∧Hid (JI W1 wr W1.heap.size go (.slice ra J.length rcap) lv (.slice none 0 0) J (Ya a (Ya b [] a.lives) (b.lives.take j)) [])∧Hid (Box wr gl [.slice a1 a.clock.length cap1,.slice a2 a.lives.length cap2,.slice a3 a.tals.length cap3,.slice b1 b.clock.length dap1,.slice b2 b.lives.length dap2,.slice b3 b.tals.length dap3,.slice b1 b.clock.length dap1,.slice b2 b.lives.length dap2,.slice b3 b.tals.length dap3,.slice a1 a.clock.length cap1,.slice a2 a.lives.length cap2,.slice a3 a.tals.length cap3] 141)∧Hid (Box wr gm [.slice b1 b.clock.length dap1,.slice b2 b.lives.length dap2,.slice b3 b.tals.length dap3] 27)∧Hid (Box wr gt [.slice a1 a.clock.length cap1,.slice a2 a.lives.length cap2,.slice a3 a.tals.length cap3] 27)) (fun i _=>b.lives.length - (intOf i).toNat)
  case atStart=>exact⟨0,_,Nat.zero_le _,rfl,HJ26,L26,HM26,HT26⟩
  obtain⟨j,lv,hj,rfl,HJ27,L27,HM27,HT27⟩:=hrel;obtain⟨w27,rfl⟩:∃w27,w27=wr:=⟨wr,rfl⟩;clear HJ26 L26 HM26 HT26
  by_cases hlt:j<b.lives.length
  ·have hlt':(j:Int)<(b.lives.length:Int):=by omega
   obtain⟨x,HX⟩:∃x,Hid (b.lives[j]? =some x):=⟨_,List.getElem?_eq_getElem hlt⟩;have HOK:=Za (HOB.lives x (List.mem_of_getElem? HX.out));obtain⟨xs,xk,xi,xu,xq⟩:=x;obtain⟨au,hau⟩:∃au:Nat,xu=au:=⟨xu.toNat,by have:=HOK.1;simp only at this;omega⟩;subst hau;have HSN:=Za (refLives_snoc (th:=a) (out:=(Ya b [] a.lives)) HX.out);obtain⟨LL,HLL⟩:∃LL,Hid (Ya a (Ya b [] a.lives) (b.lives.take j)=LL):=⟨_,rfl⟩;rw[HLL.out]at HSN HJ27
   have HLN:Hid (LL.length≤800000000):=by
    have h1:=Qh (th:=a) (l:=b.lives.take j) (out:=(Ya b [] a.lives));have h2:=List.length_take (i:=j) (l:=b.lives);have h3:=(joinL_len (a:=a) (b:=b)).1;have h4:=HOA.few.1;have h5:=HOB.few.1;rw[HLL.out]at h1;unfold Hid;omega
   obtain⟨eb,eo,hea,d0,d1,d2,d3,d4⟩:=Va (TT.below HJ27.bl (nlr _)).parts.2.1 HX.out;subst hea;have hbp:=bpl w27 (.cells #[.bool xs,.int .i64 xk,.int .i64 xi,.int .i64 (au:Int),.int .i64 xq] 106);have X28:=Box.new w27 [.bool xs,.int .i64 xk,.int .i64 xi,.int .i64 (au:Int),.int .i64 xq] 106;have J28:=HJ27.below hbp;have L28:=Za (L27.below hbp (nlr _));have M28:=Za (HM27.below hbp (nlr _));have T28:=Za (HT27.below hbp (nlr _));obtain⟨gx,HGX⟩:∃gx,Hid (w27.heap.size=gx):=⟨_,rfl⟩;have hgx:¬gx=go:=by rw[←HGX.out];have:=HJ27.box.lt;omega
   have HNX:=Za hgx;obtain⟨w28,HW28⟩:∃W,Hid (w27.alloc (.cells #[.bool xs,.int .i64 xk,.int .i64 xi,.int .i64 (au:Int),.int .i64 xq] 106)=W):=⟨_,rfl⟩;rw[HW28.out]at X28 J28 L28 M28 T28;rw[HGX.out]at X28;have HJ28:=Za J28;have HX28:=Za X28;clear hbp X28 J28 HJ27 L27 HM27 HT27 hgx
   go_upto_region 17 with fail
   rw[HW28.out,HGX.out];clear d0 d1 d2 d3 d4;have b1:=HJ28.box.get 1 rfl;obtain⟨x0,x1,x2,x3,x4⟩:=HX28.c5
   go_wp2_with fail
   refine(yE _ LL ⟨xs,xk,xi,au,xq⟩ _ (Zl Ze HJ28.lv)).mono ?_;rintro e w29 ⟨rfl,hb29⟩;have HJ29:=Za (HJ28.below hb29);have L29:=Za (L28.below hb29 (nlr _));have M29:=Za (M28.below hb29 (nlr _));have T29:=Za (T28.below hb29 (nlr _));have X29:=Za (HX28.below hb29 (nlr _));clear b1 x0 x1 x2 x3 x4 hb29 HJ28 L28 M28 T28 HX28
   by_cases hh:hasL LL ⟨xs,xk,xi,au,xq⟩=true
   ·rw[show isIn LL ⟨xs,xk,xi,au,xq⟩=true from hh];have HS1:Hid (Ya a (Ya b [] a.lives) (b.lives.take (j+1))=LL):=by unfold Hid;rw[HSN.out];unfold Ji;rw[if_pos hh]
    clear hh
    go_wp2_with fail
    go_roundw
    case rel=>exact⟨j+1,lv,by omega,by go_num,by rw[HS1.out];exact HJ29,L29,M29,T29⟩
    case measure=>simp[intOf];omega
   have hh':hasL LL ⟨xs,xk,xi,au,xq⟩=false:=by simpa using hh
   rw[show isIn LL ⟨xs,xk,xi,au,xq⟩=false from hh'];obtain⟨y,HY⟩:∃y,Hid (a.clock.getD au 0=y):=⟨_,rfl⟩
   have HAU:Hid (au<a.clock.length):=by
    have h1:=HOK.2.1;have h2:=Zm.1 HOA.clock;unfold Hid
    simp only at h1
    omega
   obtain⟨cb,co,hcb,ck⟩:=rowAt (SS.below HJ29.bl (nlr _)).parts.1 HAU.out;rw[HY.out]at ck;subst hcb;have hau':(au:Int)<(a.clock.length:Int):=by have:=HAU.out;omega
   have hau0:¬(au:Int)<0:=by omega
   have ST29:=Za (SS.below HJ29.bl (nlr _)).parts.2.1;have HK:=Za fun w' (hg:Zh w29 w')=>And.intro (T29.below hg (nlr _)).c2 (And.intro (Of hg ck) (X29.below hg (nlr _)).c5);obtain⟨h2,HH2⟩:∃h2,Hid (hasL a.lives ⟨xs,xk,xi,au,xq⟩=h2):=⟨_,rfl⟩
   go_upto_region 18 with fail
   clear ck
   go_cut [90] (fun c wx=>c=.bool (h2||decide (y<xq))∧Hid (Zh w29 wx))
   case first=>
    cases h2 with
    |true=>
     refine rgn HK.out fun wd hgd hHeld=>?_;refine ty 0 (.pointer (some ⟨gt,1,none⟩)) ?_;refine ty 1 (.slice a2 a.lives.length cap2) ?_;refine ty 2 (.agg #[.bool xs,.int .i64 xk,.int .i64 xi,.int .i64 (au:Int),.int .i64 xq]) ?_;refine wr 3 fun K hK=>?_;go_simp;refine(yE _ a.lives ⟨xs,xk,xi,au,xq⟩ _ (ST29.below hgd (nlr _))).mono ?_;rintro e w_3 ⟨rfl,hb_3⟩;rw[show isIn a.lives ⟨xs,xk,xi,au,xq⟩=true from HH2.out];have hg_3:Zh w29 w_3:=Zd hgd hb_3;refine hK.out _ _ (HK.out _ hg_3) (fun _=>?_);clear hK K
     try simp only[Act.put,Zt,Zs,Zr]
     refine ty 4 (.bool true) ?_;refine ts 5 ?_;refine ts 6 ?_;refine ts 7 ?_;refine ts 8 ?_;refine ts 9 ?_;refine ts 10 ?_;refine ts 11 ?_;refine ts 12 ?_;refine ts 13 ?_;refine ty 14 (.bool true) ?_;refine wpAnyH_done (by kernel_rfl) ?_ _
     go_wp2_with fail
     go_meet
     exact⟨by simp,hg_3⟩
    |false=>
     by_cases hlt2:y<xq
     ·skip
      refine rgn HK.out fun wd hgd hHeld=>?_;refine ty 0 (.pointer (some ⟨gt,1,none⟩)) ?_;refine ty 1 (.slice a2 a.lives.length cap2) ?_;refine ty 2 (.agg #[.bool xs,.int .i64 xk,.int .i64 xi,.int .i64 (au:Int),.int .i64 xq]) ?_;refine wr 3 fun K hK=>?_;go_simp;refine(yE _ a.lives ⟨xs,xk,xi,au,xq⟩ _ (ST29.below hgd (nlr _))).mono ?_;rintro e w_3 ⟨rfl,hb_3⟩;rw[show isIn a.lives ⟨xs,xk,xi,au,xq⟩=false from HH2.out];have hg_3:Zh w29 w_3:=Zd hgd hb_3;refine hK.out _ _ (HK.out _ hg_3) (fun _=>?_);clear hK K
      try simp only[Act.put,Zt,Zs,Zr]
      refine ty 4 (.bool false) ?_;refine ty 5 (.pointer (some ⟨gt,0,none⟩)) ?_;refine ty 6 (.slice (some ⟨cb,co,none⟩) a.clock.length cap1) ?_;refine ty 7 (.pointer (some ⟨gx,3,none⟩)) ?_;refine ty 8 (.int .i64 (au:Int)) ?_;refine ty 9 (.pointer (some ⟨cb,co+au,none⟩)) ?_;refine ty 10 (.int .i64 y) ?_;refine ty 11 (.pointer (some ⟨gx,4,none⟩)) ?_;refine ty 12 (.int .i64 xq) ?_;refine ty 13 (.bool true) ?_;refine ty 14 (.bool true) ?_;refine wpAnyH_done (by kernel_rfl) ?_ _
      go_wp2_with fail
      go_meet
      exact⟨by simp[hlt2],hg_3⟩
     skip
     refine rgn HK.out fun wd hgd hHeld=>?_;refine ty 0 (.pointer (some ⟨gt,1,none⟩)) ?_;refine ty 1 (.slice a2 a.lives.length cap2) ?_;refine ty 2 (.agg #[.bool xs,.int .i64 xk,.int .i64 xi,.int .i64 (au:Int),.int .i64 xq]) ?_;refine wr 3 fun K hK=>?_;go_simp;refine(yE _ a.lives ⟨xs,xk,xi,au,xq⟩ _ (ST29.below hgd (nlr _))).mono ?_;rintro e w_3 ⟨rfl,hb_3⟩;rw[show isIn a.lives ⟨xs,xk,xi,au,xq⟩=false from HH2.out];have hg_3:Zh w29 w_3:=Zd hgd hb_3;refine hK.out _ _ (HK.out _ hg_3) (fun _=>?_);clear hK K
     try simp only[Act.put,Zt,Zs,Zr]
     refine ty 4 (.bool false) ?_;refine ty 5 (.pointer (some ⟨gt,0,none⟩)) ?_;refine ty 6 (.slice (some ⟨cb,co,none⟩) a.clock.length cap1) ?_;refine ty 7 (.pointer (some ⟨gx,3,none⟩)) ?_;refine ty 8 (.int .i64 (au:Int)) ?_;refine ty 9 (.pointer (some ⟨cb,co+au,none⟩)) ?_;refine ty 10 (.int .i64 y) ?_;refine ty 11 (.pointer (some ⟨gx,4,none⟩)) ?_;refine ty 12 (.int .i64 xq) ?_;refine ty 13 (.bool false) ?_;refine ty 14 (.bool false) ?_;refine wpAnyH_done (by kernel_rfl) ?_ _
     go_wp2_with fail
     go_meet
     exact⟨by simp[hlt2],hg_3⟩
   obtain⟨rfl,HGR⟩:=hcut;obtain⟨w30,rfl⟩:∃w30,w30=wc:=⟨wc,rfl⟩;have HJ30:=Za (HJ29.below HGR.out);have L30:=Za (L29.below HGR.out (nlr _));have M30:=Za (M29.below HGR.out (nlr _));have T30:=Za (T29.below HGR.out (nlr _));have X30:=Za (X29.below HGR.out (nlr _));clear HJ29 L29 M29 T29 X29 HGR HK
   have HST:Hid (Ya a (Ya b [] a.lives) (b.lives.take (j+1))=if(h2||decide (y<xq))=true then Js ⟨xs,xk,xi,au,xq⟩ LL else LL):=by
    unfold Hid;rw[HSN.out];unfold Ji;rw[if_neg hh,HH2.out];simp only[Int.toNat_natCast,HY.out,Bool.or_eq_true,decide_eq_true_eq]
   clear hh hh';obtain⟨c,HC⟩:∃c,Hid ((h2||decide (y<xq))=c):=⟨_,rfl⟩;rw[HC.out]at HST ⊢
   cases c with
   |false=>
    rw[if_neg (by simp)]at HST
    go_wp2_with fail
    go_roundw
    case rel=>exact⟨j+1,lv,by omega,by go_num,by rw[HST.out];exact HJ30,L30,M30,T30⟩
    case measure=>simp[intOf];omega
   |true=>
    rw[if_pos rfl]at HST;have b1:=HJ30.box.get 1 rfl;obtain⟨x0,x1,x2,x3,x4⟩:=X30.c5
    go_wp2_with fail
    refine(put_ref _ LL ⟨xs,xk,xi,au,xq⟩ _ (Zl Ze HJ30.lv) (Nat.le_trans HLN.out (by decide))).mono ?_;rintro e w31 ⟨pv,rfl,hP,hb31⟩;obtain⟨NL,HNL⟩:∃NL,Hid (Js ⟨xs,xk,xi,au,xq⟩ LL=NL):=⟨_,rfl⟩;rw[HNL.out]at hP HST;obtain⟨pa,pcap,hpv,-⟩:=Zl Ze hP;subst hpv;have J31:=HJ30.below hb31;have P31:Xm 106 5 Zv w31 W1.heap.size (.slice pa NL.length pcap) NL:=Zw hP HJ30.bl.size;have HJ32:=Za (J31.setL P31);have L32:=Za ((L30.below hb31 (nlr _)).away (i:=1) (v:=.slice pa NL.length pcap) HGLN.out);have M32:=Za ((M30.below hb31 (nlr _)).away (i:=1) (v:=.slice pa NL.length pcap) HNM.out);have T32:=Za ((T30.below hb31 (nlr _)).away (i:=1) (v:=.slice pa NL.length pcap) HNT.out);have b1':=J31.box.get 1 rfl;have f1':=J31.box.free 1;clear b1 x0 x1 x2 x3 x4 hP hb31 HJ30 L30 M30 T30 X30
    go_wp2_with fail
    go_roundw
    case rel=>exact⟨j+1,_,by omega,by go_num,by rw[HST.out];exact HJ32,L32,M32,T32⟩
    case measure=>simp[intOf];omega
  have hlt':¬(j:Int)<(b.lives.length:Int):=by omega
  have hjl:b.lives.take j=b.lives:=List.take_of_length_le (by omega);rw[hjl]at HJ27;clear hjl
  go_wp2_with fail
  go_roundw
  case rel=>exact⟨2,lv,_,.inr (.inr rfl),by go_num,fun h=>by omega,fun h=>by omega,fun _=>rfl,HJ27,L27⟩
  case measure=>simp[intOf]
 skip
 have hLL:L=Ya a (Ya b [] a.lives) b.lives:=HL2.out rfl;subst hLL;clear HL0 HL1 HL2 L24;obtain⟨i0,hi,hz0,hz1,hz2⟩:=info_parts Tryz.infoTally;obtain⟨LF,HLF⟩:∃LF,Hid (Ya a (Ya b [] a.lives) b.lives=LF):=⟨_,rfl⟩;rw[HLF.out]at HJ24;have HBL:Hid (b.clock.length=a.clock.length):=by have:=Zm.1 HOB.clock;unfold Hid;omega
 have hcl6:a.clock.length≤6:=by have:=Zm.1 HOA.clock;omega
 have HFA:=Za HOA.few;have HFB:=Za HOB.few
 go_wp2_with fail
 go_loopw [17] (fun i wr=>∃(key:Nat) (tv:Value),key≤16∧i=.int .i64 key∧Hid (JI W1 wr W1.heap.size go (.slice ra J.length rcap) lv tv J LF (Oj a b a.clock.length key))) (fun i _=>16 - (intOf i).toNat)
 case atStart=>exact⟨0,_,Nat.zero_le _,rfl,HJ24⟩
 obtain⟨key,tv,hkey,rfl,HJ25⟩:=hrel;obtain⟨w25,rfl⟩:∃w25,w25=wr:=⟨wr,rfl⟩;clear HJ24
 by_cases hk16:key<16
 ·have hk16':(key:Int)≤15:=by omega
  have HTK:=Za (talsK_len (a:=a) (b:=b) (n:=a.clock.length) (key:=key) HFA.2 HFB.2)
  go_wp2_with fail
  go_loopw [18] (fun i wr=>∃(u:Nat) (tv:Value),u≤a.clock.length∧i=.int .i64 u∧Hid (JI W1 wr W1.heap.size go (.slice ra J.length rcap) lv tv J LF (Oj a b a.clock.length key++Qf a b key u))) (fun i _=>a.clock.length - (intOf i).toNat)
  case atStart=>exact⟨0,tv,Nat.zero_le _,rfl,Za (by simpa[Qf]using HJ25.out)⟩
  obtain⟨u,tv,hu,rfl,HJ26⟩:=hrel;obtain⟨w26,rfl⟩:∃w26,w26=wr:=⟨wr,rfl⟩;clear HJ25
  by_cases hut:u<a.clock.length
  ·have hut':(u:Int)<(a.clock.length:Int):=by omega
   have hub:u<b.clock.length:=by rw[HBL.out];exact hut
   have hub':(u:Int)<(b.clock.length:Int):=by omega
   have hu0:¬(u:Int)<0:=by omega
   obtain⟨TB,HTB⟩:∃TB,Hid (Oj a b a.clock.length key++Qf a b key u=TB):=⟨_,rfl⟩
   have HTBL:Hid (TB.length≤20000):=by
    unfold Hid;rw[←HTB.out,List.length_append];have h1:=HTK.out;have h2:=talsI_len (a:=a) (b:=b) (key:=key) (i:=u) HFA.2 HFB.2;have h3:key*(a.clock.length*100)≤16*(6*100):=Nat.mul_le_mul (by omega) (Nat.mul_le_mul hcl6 (nlr _));omega
   rw[HTB.out]at HJ26;obtain⟨ya,HYA⟩:∃y,Hid (a.clock.getD u 0=y):=⟨_,rfl⟩;obtain⟨yb,HYB⟩:∃y,Hid (b.clock.getD u 0=y):=⟨_,rfl⟩;obtain⟨ca,oa,hca,ka⟩:=rowAt (SS.below HJ26.bl (nlr _)).parts.1 hut;obtain⟨cb,ob,hcb,kb⟩:=rowAt (TT.below HJ26.bl (nlr _)).parts.1 hub;rw[HYA.out]at ka;rw[HYB.out]at kb;subst hca;subst hcb;have G26:=Za (GG.below HJ26.bl (nlr _));have K26:=Za (KK.below HJ26.bl (nlr _));obtain⟨g0,g1,g2⟩:=G26.c3;have hbp:=bpl w26 (.cells #[.slice (some ⟨ca,oa,none⟩) a.clock.length cap1,.slice a2 a.lives.length cap2,.slice a3 a.tals.length cap3] 27);have F27:=Za (Box.new w26 [.slice (some ⟨ca,oa,none⟩) a.clock.length cap1,.slice a2 a.lives.length cap2,.slice a3 a.tals.length cap3] 27);have HJ27:=Za (HJ26.below hbp);have G27:=Za (G26.below hbp (nlr _));have K27:=Za (K26.below hbp (nlr _));have ka2:=Of hbp ka;have kb2:=Of hbp kb;obtain⟨gf,HGF⟩:∃gf,Hid (w26.heap.size=gf):=⟨_,rfl⟩;have HNF:Hid (¬go=gf):=by unfold Hid;rw[←HGF.out];have:=HJ26.box.lt;omega
   have HGEF:Hid (W1.heap.size≤gf):=by unfold Hid;rw[←HGF.out];exact HJ26.bl.size
   obtain⟨w27,HW27⟩:∃W,Hid (w26.alloc (.cells #[.slice (some ⟨ca,oa,none⟩) a.clock.length cap1,.slice a2 a.lives.length cap2,.slice a3 a.tals.length cap3] 27)=W):=⟨_,rfl⟩;rw[HW27.out]at F27 HJ27 G27 K27 ka2 kb2;rw[HGF.out]at F27;clear hbp ka kb HJ26 G26 K26
   go_upto_region 29 with fail
   rw[HW27.out,HGF.out];clear g0 g1 g2;have HK:=Za fun w' (hg:Zh w27 w')=>And.intro ((G27.below hg (nlr _)).get 0 rfl) (And.intro ((K27.below hg (nlr _)).get 0 rfl) (And.intro (Of hg ka2) (Of hg kb2)));clear ka2 kb2
   go_cut [118] (fun c wx=>c=.bool (decide (ya<yb))∧Hid (Zh w27 wx))
   case first=>
    by_cases hc:ya<yb
    ·skip
     refine rgn HK.out fun wd hgd hHeld=>?_;refine ty 0 (.pointer (some ⟨w.heap.size+1,0,none⟩)) ?_;refine ty 1 (.slice (some ⟨cb,ob,none⟩) b.clock.length dap1) ?_;refine ty 2 (.int .i64 (u:Int)) ?_;refine ty 3 (.pointer (some ⟨cb,ob+u,none⟩)) ?_;refine ty 4 (.int .i64 yb) ?_;refine ty 5 (.pointer (some ⟨w.heap.size,0,none⟩)) ?_;refine ty 6 (.slice (some ⟨ca,oa,none⟩) a.clock.length cap1) ?_;refine ty 7 (.int .i64 (u:Int)) ?_;refine ty 8 (.pointer (some ⟨ca,oa+u,none⟩)) ?_;refine ty 9 (.int .i64 ya) ?_;refine ty 10 (.bool true) ?_;refine wpAnyH_done (by kernel_rfl) ?_ _
     go_wp2_with fail
     go_meet
     exact⟨by simp[hc],hgd⟩
    skip
    refine rgn HK.out fun wd hgd hHeld=>?_;refine ty 0 (.pointer (some ⟨w.heap.size+1,0,none⟩)) ?_;refine ty 1 (.slice (some ⟨cb,ob,none⟩) b.clock.length dap1) ?_;refine ty 2 (.int .i64 (u:Int)) ?_;refine ty 3 (.pointer (some ⟨cb,ob+u,none⟩)) ?_;refine ty 4 (.int .i64 yb) ?_;refine ty 5 (.pointer (some ⟨w.heap.size,0,none⟩)) ?_;refine ty 6 (.slice (some ⟨ca,oa,none⟩) a.clock.length cap1) ?_;refine ty 7 (.int .i64 (u:Int)) ?_;refine ty 8 (.pointer (some ⟨ca,oa+u,none⟩)) ?_;refine ty 9 (.int .i64 ya) ?_;refine ty 10 (.bool false) ?_;refine wpAnyH_done (by kernel_rfl) ?_ _
    go_wp2_with fail
    go_meet
    exact⟨by simp[hc],hgd⟩
   obtain⟨rfl,HGR⟩:=hcut;obtain⟨w28,rfl⟩:∃w28,w28=wc:=⟨wc,rfl⟩;have HJ28:=Za (HJ27.below HGR.out);have F28:=Za (F27.below HGR.out (nlr _));have K28:=Za (K27.below HGR.out (nlr _));clear HJ27 F27 K27 G27 HGR HK
   by_cases hc:ya<yb
   ·rw[decide_eq_true hc];have HFS:Hid ((Qo a b u).tals=b.tals):=by unfold Hid Qo;rw[HYA.out,HYB.out,if_pos hc]
    clear hc;obtain⟨k0,k1,k2⟩:=K28.c3;obtain⟨e0,e1,e2⟩:=F28.c3;have n0:=F28.free 0;have n1:=F28.free 1;have n2:=F28.free 2;have HJ29:=Za (((HJ28.other F28.out HNF.out HGEF.out 0 (.slice (some ⟨cb,ob,none⟩) b.clock.length dap1)).other (F28.set 0 _) HNF.out HGEF.out 1 (.slice b2 b.lives.length dap2)).other ((F28.set 0 _).set 1 _) HNF.out HGEF.out 2 (.slice b3 b.tals.length dap3));have F29:=Za (((F28.set 0 (.slice (some ⟨cb,ob,none⟩) b.clock.length dap1)).set 1 (.slice b2 b.lives.length dap2)).set 2 (.slice b3 b.tals.length dap3));obtain⟨w29,HW29⟩:∃W,Hid (((w28.setCell ⟨gf,0,none⟩ (.slice (some ⟨cb,ob,none⟩) b.clock.length dap1)).setCell ⟨gf,1,none⟩ (.slice b2 b.lives.length dap2)).setCell ⟨gf,2,none⟩ (.slice b3 b.tals.length dap3)=W):=⟨_,rfl⟩;rw[HW29.out]at HJ29 F29;clear HJ28 F28 K28
    go_upto_region 31 with fail
    rw[HW29.out];clear k0 k1 k2 e0 e1 e2 n0 n1 n2;have f2:=F29.get 2 rfl;have htl:b.tals.length≤100:=HFB.2
    go_wp2_with fail
    clear f2
    go_loopw [123] (fun i wr=>∃(j:Nat) (tv:Value),j≤b.tals.length∧i=.int .i64 j∧Hid (JI W1 wr W1.heap.size go (.slice ra J.length rcap) lv tv J LF (TB++(b.tals.take j).filter (zA key u)))) (fun i _=>b.tals.length - (intOf i).toNat)
    case atStart=>exact⟨0,_,Nat.zero_le _,rfl,Za (by simpa using HJ29.out)⟩
    obtain⟨j,tv,hj,rfl,HJ30⟩:=hrel;obtain⟨w30,rfl⟩:∃w30,w30=wr:=⟨wr,rfl⟩;clear HJ29 F29
    by_cases hlt:j<b.tals.length
    ·have hlt':(j:Int)<(b.tals.length:Int):=by omega
     obtain⟨t,HT⟩:∃t,Hid (b.tals[j]? =some t):=⟨_,List.getElem?_eq_getElem hlt⟩;obtain⟨tk,ta,ts⟩:=t;have HHT:=Za (hit_take (key:=key) (i:=u) HT.out);obtain⟨tb,to',hta,d0,d1,d2⟩:=Jy (TT.below HJ30.bl (nlr _)).parts.2.2 HT.out;subst hta;obtain⟨TC,HTC⟩:∃TC,Hid (TB++(b.tals.take j).filter (zA key u)=TC):=⟨_,rfl⟩;rw[HTC.out]at HJ30
     have HTL:Hid (TC.length≤100000):=by
      unfold Hid;rw[←HTC.out,List.length_append];have h1:=List.length_filter_le (zA key u) (b.tals.take j);have h2:=List.length_take (i:=j) (l:=b.tals);have h3:=HTBL.out;have h4:=HFA.2;have h5:=HFB.2;omega
     have hbp:=bpl w30 (.cells #[.int .i64 tk,.int .i64 ta,.int .i64 ts] 108);have X31:=Box.new w30 [.int .i64 tk,.int .i64 ta,.int .i64 ts] 108;have J31:=HJ30.below hbp;obtain⟨gx,HGX⟩:∃gx,Hid (w30.heap.size=gx):=⟨_,rfl⟩;obtain⟨w31,HW31⟩:∃W,Hid (w30.alloc (.cells #[.int .i64 tk,.int .i64 ta,.int .i64 ts] 108)=W):=⟨_,rfl⟩;rw[HW31.out]at X31 J31;rw[HGX.out]at X31;have HJ31:=Za J31;have HX31:=Za X31;clear hbp X31 J31 HJ30
     go_upto_region 34 with fail
     rw[HW31.out,HGX.out];clear d0 d1 d2;obtain⟨x0,x1,x2⟩:=HX31.c3
     by_cases hk:tk=(key:Int)
     ·have hk':(tk==(key:Int))=true:=by simp[hk]
      by_cases hu2:ta=(u:Int)
      ·have hu2':(ta==(u:Int))=true:=by simp[hu2]
       have HHH:Hid (TB++(b.tals.take (j+1)).filter (zA key u)=TC++[⟨tk,ta,ts⟩]):=by unfold Hid;rw[HHT.out,if_pos (Oq.2 ⟨hk,hu2⟩),←List.append_assoc,HTC.out]
       clear hk hu2;have b2:=HJ31.box.get 2 rfl;have HSB:=Za (Nat.le_trans HJ31.ge (Nat.le_of_lt HJ31.box.lt));have JA:=Za (HJ31.below ((Below.refl w31.heap.size w31).alloc (nlr _) (.cells #[.int .i64 tk,.int .i64 ta,.int .i64 ts] 108)))
       go_wp2_with (at_builtin;refine wpList_append_own _ rfl (.tmp 138) (.tmp 140) 25 rfl W1.heap.size 108 i0 (.agg #[.int .i64 0,.int .i64 0,.int .i64 0]) 3 24 Tryz.underlying25 hi hz0 hz1 hz2 rfl (by decide) _ _ _ rfl JA.tl ⟨w31.heap.size,0,none⟩ 1 1 (Yb ⟨tk,ta,ts⟩) rfl rfl ?c1 ?c2 ?c3 ?c4 ?c5 ?_)
       case c1=>exact alloc_cellsJ w31 (Yb ⟨tk,ta,ts⟩) 108
       case c2=>exact Jc ⟨tk,ta,ts⟩
       case c3=>unfold maxLen;have:=HTL.out;omega
       case c4=>have:=HTL.out;omega
       case c5=>have:=HSB.out;simp;omega
       intro v' w32 hown' hgrow _;have T32:Xm 108 3 Yb w32 W1.heap.size v' (TC++[⟨tk,ta,ts⟩]):=Xm.more hown';obtain⟨TD,HTD⟩:∃TD,Hid (TC++[(⟨tk,ta,ts⟩:Tal)]=TD):=⟨_,rfl⟩;rw[HTD.out]at T32 HHH;obtain⟨va,vc,hvv,-⟩:=Zl Zg T32;subst hvv;obtain⟨B32,C32,V32,E32⟩:=JA.grown hgrow (by have:=HSB.out;simp;omega);have HJ33:=Za (JI.setT2 B32 C32 V32 T32 E32 JA.ge);have c2':=B32.get 2 rfl;have f2':=B32.free 2;clear hown' hgrow b2 x0 x1 x2 B32 C32 V32 T32 E32 HJ31 JA HX31
       go_wp2_with fail
       go_roundw
       case rel=>exact⟨j+1,_,by omega,by go_num,by rw[HHH.out];exact HJ33⟩
       case measure=>simp[intOf];omega
      have hu2':(ta==(u:Int))=false:=by simp[hu2]
      have HHH:Hid (TB++(b.tals.take (j+1)).filter (zA key u)=TC):=by unfold Hid;rw[HHT.out,if_neg (fun h=>hu2 (Oq.1 h).2),HTC.out]
      clear hk hu2
      go_wp2_with fail
      go_roundw
      case rel=>exact⟨j+1,tv,by omega,by go_num,by rw[HHH.out];exact HJ31⟩
      case measure=>simp[intOf];omega
     have hk':(tk==(key:Int))=false:=by simp[hk]
     have HHH:Hid (TB++(b.tals.take (j+1)).filter (zA key u)=TC):=by unfold Hid;rw[HHT.out,if_neg (fun h=>hk (Oq.1 h).1),HTC.out]
     clear hk
     go_wp2_with fail
     go_roundw
     case rel=>exact⟨j+1,tv,by omega,by go_num,by rw[HHH.out];exact HJ31⟩
     case measure=>simp[intOf];omega
    have hlt':¬(j:Int)<(b.tals.length:Int):=by omega
    have hjl:b.tals.take j=b.tals:=List.take_of_length_le (by omega);rw[hjl]at HJ30;clear hjl;have HSU:Hid (Oj a b a.clock.length key++Qf a b key (u+1)=TB++b.tals.filter (zA key u)):=by unfold Hid;rw[zG,HFS.out,←List.append_assoc,HTB.out]
    go_wp2_with fail
    go_roundw
    case rel=>exact⟨u+1,tv,by omega,by go_num,by rw[HSU.out];exact HJ30⟩
    case measure=>simp[intOf];omega
   rw[decide_eq_false hc];have HFS:Hid ((Qo a b u).tals=a.tals):=by unfold Hid Qo;rw[HYA.out,HYB.out,if_neg hc]
   clear hc;have HJ29:=HJ28;have F29:=F28;clear HJ28 F28 K28;have f2:=F29.get 2 rfl;have htl:a.tals.length≤100:=HFA.2
   go_wp2_with fail
   clear f2
   go_loopw [123] (fun i wr=>∃(j:Nat) (tv:Value),j≤a.tals.length∧i=.int .i64 j∧Hid (JI W1 wr W1.heap.size go (.slice ra J.length rcap) lv tv J LF (TB++(a.tals.take j).filter (zA key u)))) (fun i _=>a.tals.length - (intOf i).toNat)
   case atStart=>exact⟨0,_,Nat.zero_le _,rfl,Za (by simpa using HJ29.out)⟩
   obtain⟨j,tv,hj,rfl,HJ30⟩:=hrel;obtain⟨w30,rfl⟩:∃w30,w30=wr:=⟨wr,rfl⟩;clear HJ29 F29
   by_cases hlt:j<a.tals.length
   ·have hlt':(j:Int)<(a.tals.length:Int):=by omega
    obtain⟨t,HT⟩:∃t,Hid (a.tals[j]? =some t):=⟨_,List.getElem?_eq_getElem hlt⟩;obtain⟨tk,ta,ts⟩:=t;have HHT:=Za (hit_take (key:=key) (i:=u) HT.out);obtain⟨tb,to',hta,d0,d1,d2⟩:=Jy (SS.below HJ30.bl (nlr _)).parts.2.2 HT.out;subst hta;obtain⟨TC,HTC⟩:∃TC,Hid (TB++(a.tals.take j).filter (zA key u)=TC):=⟨_,rfl⟩;rw[HTC.out]at HJ30
    have HTL:Hid (TC.length≤100000):=by
     unfold Hid;rw[←HTC.out,List.length_append];have h1:=List.length_filter_le (zA key u) (a.tals.take j);have h2:=List.length_take (i:=j) (l:=a.tals);have h3:=HTBL.out;have h4:=HFA.2;have h5:=HFB.2;omega
    have hbp:=bpl w30 (.cells #[.int .i64 tk,.int .i64 ta,.int .i64 ts] 108);have X31:=Box.new w30 [.int .i64 tk,.int .i64 ta,.int .i64 ts] 108;have J31:=HJ30.below hbp;obtain⟨gx,HGX⟩:∃gx,Hid (w30.heap.size=gx):=⟨_,rfl⟩;obtain⟨w31,HW31⟩:∃W,Hid (w30.alloc (.cells #[.int .i64 tk,.int .i64 ta,.int .i64 ts] 108)=W):=⟨_,rfl⟩;rw[HW31.out]at X31 J31;rw[HGX.out]at X31;have HJ31:=Za J31;have HX31:=Za X31;clear hbp X31 J31 HJ30
    go_upto_region 34 with fail
    rw[HW31.out,HGX.out];clear d0 d1 d2;obtain⟨x0,x1,x2⟩:=HX31.c3
    by_cases hk:tk=(key:Int)
    ·have hk':(tk==(key:Int))=true:=by simp[hk]
     by_cases hu2:ta=(u:Int)
     ·have hu2':(ta==(u:Int))=true:=by simp[hu2]
      have HHH:Hid (TB++(a.tals.take (j+1)).filter (zA key u)=TC++[⟨tk,ta,ts⟩]):=by unfold Hid;rw[HHT.out,if_pos (Oq.2 ⟨hk,hu2⟩),←List.append_assoc,HTC.out]
      clear hk hu2;have b2:=HJ31.box.get 2 rfl;have HSB:=Za (Nat.le_trans HJ31.ge (Nat.le_of_lt HJ31.box.lt));have JA:=Za (HJ31.below ((Below.refl w31.heap.size w31).alloc (nlr _) (.cells #[.int .i64 tk,.int .i64 ta,.int .i64 ts] 108)))
      go_wp2_with (at_builtin;refine wpList_append_own _ rfl (.tmp 138) (.tmp 140) 25 rfl W1.heap.size 108 i0 (.agg #[.int .i64 0,.int .i64 0,.int .i64 0]) 3 24 Tryz.underlying25 hi hz0 hz1 hz2 rfl (by decide) _ _ _ rfl JA.tl ⟨w31.heap.size,0,none⟩ 1 1 (Yb ⟨tk,ta,ts⟩) rfl rfl ?c1 ?c2 ?c3 ?c4 ?c5 ?_)
      case c1=>exact alloc_cellsJ w31 (Yb ⟨tk,ta,ts⟩) 108
      case c2=>exact Jc ⟨tk,ta,ts⟩
      case c3=>unfold maxLen;have:=HTL.out;omega
      case c4=>have:=HTL.out;omega
      case c5=>have:=HSB.out;simp;omega
      intro v' w32 hown' hgrow _;have T32:Xm 108 3 Yb w32 W1.heap.size v' (TC++[⟨tk,ta,ts⟩]):=Xm.more hown';obtain⟨TD,HTD⟩:∃TD,Hid (TC++[(⟨tk,ta,ts⟩:Tal)]=TD):=⟨_,rfl⟩;rw[HTD.out]at T32 HHH;obtain⟨va,vc,hvv,-⟩:=Zl Zg T32;subst hvv;obtain⟨B32,C32,V32,E32⟩:=JA.grown hgrow (by have:=HSB.out;simp;omega);have HJ33:=Za (JI.setT2 B32 C32 V32 T32 E32 JA.ge);have c2':=B32.get 2 rfl;have f2':=B32.free 2;clear hown' hgrow b2 x0 x1 x2 B32 C32 V32 T32 E32 HJ31 JA HX31
      go_wp2_with fail
      go_roundw
      case rel=>exact⟨j+1,_,by omega,by go_num,by rw[HHH.out];exact HJ33⟩
      case measure=>simp[intOf];omega
     have hu2':(ta==(u:Int))=false:=by simp[hu2]
     have HHH:Hid (TB++(a.tals.take (j+1)).filter (zA key u)=TC):=by unfold Hid;rw[HHT.out,if_neg (fun h=>hu2 (Oq.1 h).2),HTC.out]
     clear hk hu2
     go_wp2_with fail
     go_roundw
     case rel=>exact⟨j+1,tv,by omega,by go_num,by rw[HHH.out];exact HJ31⟩
     case measure=>simp[intOf];omega
    have hk':(tk==(key:Int))=false:=by simp[hk]
    have HHH:Hid (TB++(a.tals.take (j+1)).filter (zA key u)=TC):=by unfold Hid;rw[HHT.out,if_neg (fun h=>hk (Oq.1 h).1),HTC.out]
    clear hk
    go_wp2_with fail
    go_roundw
    case rel=>exact⟨j+1,tv,by omega,by go_num,by rw[HHH.out];exact HJ31⟩
    case measure=>simp[intOf];omega
   have hlt':¬(j:Int)<(a.tals.length:Int):=by omega
   have hjl:a.tals.take j=a.tals:=List.take_of_length_le (by omega);rw[hjl]at HJ30;clear hjl;have HSU:Hid (Oj a b a.clock.length key++Qf a b key (u+1)=TB++a.tals.filter (zA key u)):=by unfold Hid;rw[zG,HFS.out,←List.append_assoc,HTB.out]
   go_wp2_with fail
   go_roundw
   case rel=>exact⟨u+1,tv,by omega,by go_num,by rw[HSU.out];exact HJ30⟩
   case measure=>simp[intOf];omega
  have hut':¬(u:Int)<(a.clock.length:Int):=by omega
  obtain rfl:u=a.clock.length:=by omega
  have HSK:=Za (talsK_succ a b a.clock.length key)
  go_wp2_with fail
  go_roundw
  case rel=>exact⟨key+1,tv,by omega,by go_num,by rw[HSK.out];exact HJ26⟩
  case measure=>simp[intOf];omega
 have hk16':¬(key:Int)≤15:=by omega
 obtain rfl:key=16:=by omega
 have HXE:Hid (X=⟨J,LF,Oj a b a.clock.length 16⟩):=by unfold Hid;rw[HXX.out,HJ.out,←HLF.out,ref_lives HOA.out HOB.out,ref_tals (n:=a.clock.length) HOA.out HOB.out]
 obtain⟨TK,HTK6⟩:∃TK,Hid (Oj a b a.clock.length 16=TK):=⟨_,rfl⟩;rw[HTK6.out]at HJ25 HXE;obtain⟨l1,l2,hlv,-⟩:=Zl Ze HJ25.lv;obtain⟨t1,t2,htv,-⟩:=Zl Zg HJ25.tl;subst hlv;subst htv;have R25:=RR.below HJ25.bl (nlr _);obtain⟨b0,b1,b2⟩:=HJ25.box.c3;obtain⟨r0,r1,r2⟩:=R25.c3;have n0:=R25.free 0;have n1:=R25.free 1;have n2:=R25.free 2;have hR:=((R25.set 0 (.slice ra J.length rcap)).set 1 (.slice l1 LF.length l2)).set 2 (.slice t1 TK.length t2)
 have S0':Yl w25 (w.heap.size+3) (.agg #[(.slice ra J.length rcap),.slice l1 LF.length l2,.slice t1 TK.length t2]) X:=by
  rw[HXE.out];have hB:w.heap.size+3≤W1.heap.size:=by have:=RR.lt;omega
  exact⟨_,_,_,rfl,HJ25.ck.mono hB,Zw HJ25.lv hB,Zw HJ25.tl hB⟩
 have hlt3:w.heap.size+1+1<w.heap.size+3:=by omega
 have S3:=Za (((S0'.away hlt3 0 (.slice ra J.length rcap)).away hlt3 1 (.slice l1 LF.length l2)).away hlt3 2 (.slice t1 TK.length t2));have HBE:=Za (HB0.trans (HJ25.bl.mono HB0.size))
 go_wp2_with fail
 refine bodyPost_ret (Zc rfl _ _ (w.heap.size+1+1) 27 _ (0,0) _ rfl hR Tryz.underlying27 rfl Tryz.sizeState) rfl ⟨_,rfl,S3.out,?_⟩
 exact((HBE.setCell (by show w.heap.size≤w.heap.size+1+1;omega) _).setCell (by show w.heap.size≤w.heap.size+1+1;omega) _).setCell (by show w.heap.size≤w.heap.size+1+1;omega) _

end Go.Proofs.YtfhecilhcofboaaGreat
