/- Nodes in memory: one that is read, and one of the call's own in a variable. -/
import Derived.Test.YtfhecilhcofboaaGreatNdPure
namespace Go.Proofs.YtfhecilhcofboaaGreat
open Go.RowKit

def KnV(w:World)(v:Value)(ks:List (List Int)):Prop:=
 ∃(a:Option Addr) (cap:Nat),v=.slice a ks.length cap∧ks.length≤cap∧cap≤maxLen∧
  ∀i k,ks[i]? =some k→∃b off,a=some ⟨b,off,none⟩∧∃kv,w.cell? ⟨b,off+i,none⟩=some kv∧Row w kv k
theorem KnV.below{w w':World}{v:Value}{ks:List (List Int)}(h:KnV w v ks){B:Nat}(hb:Below B w w')(hB:w.heap.size≤B):KnV w' v ks:=by
 obtain⟨a,cap,h1,h2,h3,h4⟩:=h;refine⟨a,cap,h1,h2,h3,fun i k hi=>?_⟩;obtain⟨b,off,h5,kv,h6,h7⟩:=h4 i k hi;exact⟨b,off,h5,kv,(hb.cell (p:=⟨b,_,none⟩) (Nat.lt_of_lt_of_le (World.block_lt_of_cell? w _ h6) hB)).trans h6,h7.below hb hB⟩
theorem KnV.len_le{w:World}{v:Value}{ks:List (List Int)}(h:KnV w v ks):ks.length≤9223372036854775807:=by
 obtain⟨a,cap,h1,h2,h3,h4⟩:=h;unfold maxLen at h3;omega
theorem KnV.at{w:World}{a:Option Addr}{m c:Nat}{ks:List (List Int)}(h:KnV w (.slice a m c) ks){i:Nat}{k:List Int}(hk:ks[i]? =some k):
  ∃b off a5 cap5,a=some ⟨b,off,none⟩∧w.cell? ⟨b,off+i,none⟩=some (.slice a5 k.length cap5)∧Row w (.slice a5 k.length cap5) k:=by
 obtain⟨c1,c2,hv,hc2,hc3,hcell⟩:=h;obtain⟨b,off,rfl,kv,d0,hr⟩:=hcell i k hk;obtain⟨a5,cap5,rfl,-,-,-⟩:=id hr;simp only[Value.slice.injEq]at hv;obtain⟨rfl,-,rfl⟩:=hv;exact⟨b,off,a5,cap5,rfl,d0,hr⟩
def KnO(w:World)(B:Nat)(v:Value)(qs:List (List Int×Value)):Prop:=
 w.ownsRow B 23 1 v qs.length (qs.map (·.2))∧∀q ∈ qs,Own w B q.2 q.1
theorem KnO.kn{w:World}{B:Nat}{v:Value}{qs:List (List Int×Value)}(h:KnO w B v qs):KnV w v (qs.map (·.1)):=by
 obtain⟨h,hs⟩:=h
 rcases h.2 with⟨rfl,h0⟩|⟨g,cap,cur,rfl,hg,hh,h1,h2,h3,h4⟩
 ·have:qs=[]:=List.eq_nil_of_length_eq_zero h0;subst this;exact⟨none,0,rfl,by simp,by unfold maxLen;omega,fun i u hi=>by simp at hi⟩
 refine⟨some ⟨g,0,none⟩,cap,by simp,by simpa using h1,h2,fun i k hi=>⟨g,0,rfl,?_⟩⟩;simp only[List.getElem?_map,Option.map_eq_some_iff]at hi;obtain⟨q,hq,rfl⟩:=hi;have hil:i<qs.length:=(List.getElem?_eq_some_iff.1 hq).1;refine⟨q.2,?_,(hs q (List.mem_of_getElem? hq)).row⟩;have e:(qs.map (·.2))[i]? =some q.2:=by rw[List.getElem?_map,hq];rfl
 rw[←h4,List.getElem?_take_of_lt (by omega)]at e;rw[Nat.zero_add];unfold World.cell?;simp only[hh]
 simpa using e
theorem KnO.below{w w':World}{B C:Nat}{v:Value}{qs:List (List Int×Value)}(h:KnO w B v qs)(hb:Below C w w')(hC:w.heap.size≤C):KnO w' B v qs:=
 ⟨Zp h.1 hb hC,fun q hq=>(h.2 q hq).below hb hC⟩
theorem KnO.base{w:World}{B C:Nat}{v:Value}{qs:List (List Int×Value)}(h:KnO w B v qs)(hB:C≤B):KnO w C v qs:=
 ⟨Zw h.1 hB,fun q hq=>(h.2 q hq).mono hB⟩
theorem zX.base{w:World}{B C:Nat}{v:Value}{ps:List (Upd×Value)}(h:zX w B v ps)(hB:C≤B):zX w C v ps:=
 ⟨Zw h.1 hB,fun q hq=>(h.2 q hq).mono hB⟩

def Xx(w:World)(B:Nat)(v:Value)(l:List Upd):Prop:=∃ps,zX w B v ps∧ps.map (·.1)=l
theorem Xx.log{w:World}{B:Nat}{v:Value}{l:List Upd}(h:Xx w B v l):Vh w v l:=by
 obtain⟨ps,h1,rfl⟩:=h;exact h1.log
theorem Xx.below{w w':World}{B C:Nat}{v:Value}{l:List Upd}(h:Xx w B v l)(hb:Below C w w')(hC:w.heap.size≤C):Xx w' B v l:=by
 obtain⟨ps,h1,h2⟩:=h;exact⟨ps,h1.below hb hC,h2⟩
theorem Xx.base{w:World}{B C:Nat}{v:Value}{l:List Upd}(h:Xx w B v l)(hB:C≤B):Xx w C v l:=by
 obtain⟨ps,h1,h2⟩:=h;exact⟨ps,h1.base hB,h2⟩
theorem Xx.form{w:World}{B:Nat}{v:Value}{l:List Upd}(h:Xx w B v l):∃a c,v=.slice a l.length c:=by
 obtain⟨a,c,h1,-⟩:=h.log;exact⟨a,c,h1⟩
def Uf(w:World)(B:Nat)(v:Value)(ks:List (List Int)):Prop:=∃qs,KnO w B v qs∧qs.map (·.1)=ks
theorem Uf.kn{w:World}{B:Nat}{v:Value}{ks:List (List Int)}(h:Uf w B v ks):KnV w v ks:=by
 obtain⟨ps,h1,rfl⟩:=h;exact h1.kn
theorem Uf.below{w w':World}{B C:Nat}{v:Value}{ks:List (List Int)}(h:Uf w B v ks)(hb:Below C w w')(hC:w.heap.size≤C):Uf w' B v ks:=by
 obtain⟨ps,h1,h2⟩:=h;exact⟨ps,h1.below hb hC,h2⟩
theorem Uf.base{w:World}{B C:Nat}{v:Value}{ks:List (List Int)}(h:Uf w B v ks)(hB:C≤B):Uf w C v ks:=by
 obtain⟨ps,h1,h2⟩:=h;exact⟨ps,h1.base hB,h2⟩
theorem Uf.form{w:World}{B:Nat}{v:Value}{ks:List (List Int)}(h:Uf w B v ks):∃a c,v=.slice a ks.length c:=by
 obtain⟨a,c,h1,-⟩:=h.kn;exact⟨a,c,h1⟩

def Vp(w:World)(v:Value)(d:NdS):Prop:=
 ∃cv lv tv bv uv kv,v=.agg #[.int .i64 d.self,cv,lv,tv,bv,uv,kv]∧Jp w (.agg #[cv,lv,tv]) d.st∧Row w bv d.base∧Vh w uv d.log∧KnV w kv d.known
theorem Vp.below{w w':World}{v:Value}{d:NdS}(h:Vp w v d){B:Nat}(hb:Below B w w')(hB:w.heap.size≤B):Vp w' v d:=by
 obtain⟨cv,lv,tv,bv,uv,kv,h1,h2,h3,h4,h5⟩:=h;exact⟨cv,lv,tv,bv,uv,kv,h1,h2.below hb hB,h3.below hb hB,h4.below hb hB,h5.below hb hB⟩
def Yo(w:World)(B:Nat)(v:Value)(d:NdS):Prop:=
 ∃cv lv tv bv uv kv,v=.agg #[.int .i64 d.self,cv,lv,tv,bv,uv,kv]∧Yl w B (.agg #[cv,lv,tv]) d.st∧Own w B bv d.base∧Xx w B uv d.log∧Uf w B kv d.known
theorem Yo.node{w:World}{B:Nat}{v:Value}{d:NdS}(h:Yo w B v d):Vp w v d:=by
 obtain⟨cv,lv,tv,bv,uv,kv,h1,h2,h3,h4,h5⟩:=h;exact⟨cv,lv,tv,bv,uv,kv,h1,h2.st,h3.row,h4.log,h5.kn⟩
theorem Yo.below{w w':World}{B C:Nat}{v:Value}{d:NdS}(h:Yo w B v d)(hb:Below C w w')(hC:w.heap.size≤C):Yo w' B v d:=by
 obtain⟨cv,lv,tv,bv,uv,kv,h1,h2,h3,h4,h5⟩:=h;exact⟨cv,lv,tv,bv,uv,kv,h1,h2.below hb hC,h3.below hb hC,h4.below hb hC,h5.below hb hC⟩
theorem Yo.base{w:World}{B C:Nat}{v:Value}{d:NdS}(h:Yo w B v d)(hB:C≤B):Yo w C v d:=by
 obtain⟨cv,lv,tv,bv,uv,kv,h1,h2,h3,h4,h5⟩:=h;exact⟨cv,lv,tv,bv,uv,kv,h1,h2.base hB,h3.mono hB,h4.base hB,h5.base hB⟩
theorem Xx.away{w:World}{B:Nat}{v:Value}{l:List Upd}(h:Xx w B v l){g:Nat}(hg:g<B)(i:Nat)(x:Value):Xx (w.setCell ⟨g,i,none⟩ x) B v l:=by
 obtain⟨ps,h1,h2⟩:=h;exact⟨ps,⟨ownsRow_setCell_below h1.1 hg x,fun p hp=>(h1.2 p hp).away hg i x⟩,h2⟩
theorem Uf.away{w:World}{B:Nat}{v:Value}{ks:List (List Int)}(h:Uf w B v ks){g:Nat}(hg:g<B)(i:Nat)(x:Value):Uf (w.setCell ⟨g,i,none⟩ x) B v ks:=by
 obtain⟨ps,h1,h2⟩:=h;exact⟨ps,⟨ownsRow_setCell_below h1.1 hg x,fun p hp=>(h1.2 p hp).away hg i x⟩,h2⟩
theorem Yo.away{w:World}{B:Nat}{v:Value}{d:NdS}(h:Yo w B v d){g:Nat}(hg:g<B)(i:Nat)(x:Value):Yo (w.setCell ⟨g,i,none⟩ x) B v d:=by
 obtain⟨cv,lv,tv,bv,uv,kv,h1,h2,h3,h4,h5⟩:=h;exact⟨cv,lv,tv,bv,uv,kv,h1,h2.away hg i x,h3.away hg i x,h4.away hg i x,h5.away hg i x⟩
theorem Xx.nil(w:World)(B:Nat):Xx w B (.slice none 0 0) []:=⟨[],⟨World.ownsRow_nil _ _ _ _,fun p hp=>by simp at hp⟩,rfl⟩
theorem Uf.nil(w:World)(B:Nat):Uf w B (.slice none 0 0) []:=⟨[],⟨World.ownsRow_nil _ _ _ _,fun p hp=>by simp at hp⟩,rfl⟩
theorem Yo.none(w:World)(B:Nat):Yo w B (.agg #[.int .i64 0,.slice none 0 0,.slice none 0 0,.slice none 0 0,.slice none 0 0,.slice none 0 0,.slice none 0 0]) Yu:=
 ⟨_,_,_,_,_,_,rfl,Yl.none _ _,Jm _ _,Xx.nil _ _,Uf.nil _ _⟩

theorem Own.setT{w:World}{B g:Nat}{t:TypeId}{v:Value}{xs:List Int}{cs:List Value}(h:Own w B v xs)(hb:Box w g cs t)(hte:t≠3)(i:Nat)(x:Value):Own (w.setCell ⟨g,i,none⟩ x) B v xs:=Yd h hb hte i x
theorem Yl.setT{w:World}{B g:Nat}{t:TypeId}{v:Value}{s:StS}{cs:List Value}(h:Yl w B v s)(hb:Box w g cs t)(h1:t≠3)(h2:t≠106)(h3:t≠108)(i:Nat)(x:Value):Yl (w.setCell ⟨g,i,Option.none⟩ x) B v s:=by
 obtain⟨cv,lv,tv,k1,k2,k3,k4⟩:=h;exact⟨cv,lv,tv,k1,k2.setT hb h1 i x,Yd k3 hb h2 i x,Yd k4 hb h3 i x⟩
theorem Xx.setT{w:World}{B g:Nat}{t:TypeId}{v:Value}{l:List Upd}{cs:List Value}(h:Xx w B v l)(hb:Box w g cs t)(h1:t≠3)(h2:t≠33)(i:Nat)(x:Value):Xx (w.setCell ⟨g,i,none⟩ x) B v l:=by
 obtain⟨ps,h,h3⟩:=h;exact⟨ps,⟨Yd h.1 hb h2 i x,fun p hp=>(h.2 p hp).setT hb h1 i x⟩,h3⟩
theorem Uf.setT{w:World}{B g:Nat}{t:TypeId}{v:Value}{ks:List (List Int)}{cs:List Value}(h:Uf w B v ks)(hb:Box w g cs t)(h1:t≠3)(h2:t≠23)(i:Nat)(x:Value):Uf (w.setCell ⟨g,i,none⟩ x) B v ks:=by
 obtain⟨ps,h,h3⟩:=h;exact⟨ps,⟨Yd h.1 hb h2 i x,fun p hp=>(h.2 p hp).setT hb h1 i x⟩,h3⟩

def IsPcl(w:World)(v:Value)(p:Pcl):Prop:=
 ∃cv lv tv uv kv,v=.agg #[.bool p.whole,cv,lv,tv,uv,kv]∧Jp w (.agg #[cv,lv,tv]) p.st∧Vh w uv p.ups∧Row w kv p.clock
theorem IsPcl.below{w w':World}{v:Value}{p:Pcl}(h:IsPcl w v p){B:Nat}(hb:Below B w w')(hB:w.heap.size≤B):IsPcl w' v p:=by
 obtain⟨cv,lv,tv,uv,kv,h1,h2,h3,h4⟩:=h;exact⟨cv,lv,tv,uv,kv,h1,h2.below hb hB,h3.below hb hB,h4.below hb hB⟩
theorem IsPcl.form{w:World}{v:Value}{p:Pcl}(h:IsPcl w v p):∃a1 c1 a2 c2 a3 c3 a4 c4 a5 c5,v=.agg #[.bool p.whole,.slice a1 p.st.clock.length c1,.slice a2 p.st.lives.length c2,.slice a3 p.st.tals.length c3,.slice a4 p.ups.length c4,.slice a5 p.clock.length c5]∧
  Jp w (.agg #[.slice a1 p.st.clock.length c1,.slice a2 p.st.lives.length c2,.slice a3 p.st.tals.length c3]) p.st∧Row w (.slice a1 p.st.clock.length c1) p.st.clock∧Vh w (.slice a4 p.ups.length c4) p.ups∧Row w (.slice a5 p.clock.length c5) p.clock:=by
 obtain⟨cv,lv,tv,uv,kv,rfl,hs,hl,hk⟩:=h;have hs0:=hs;obtain⟨cv',lv',tv',he,hc,hv,ht⟩:=hs;simp only[Value.agg.injEq,Array.mk.injEq,List.cons.injEq,and_true]at he;obtain⟨rfl,rfl,rfl⟩:=he;obtain⟨a1,c1,rfl,-,-,-⟩:=id hc;obtain⟨a2,c2,rfl,-,-,-⟩:=id hv;obtain⟨a3,c3,rfl,-,-,-⟩:=id ht;obtain⟨a4,c4,rfl,-,-,-⟩:=id hl;obtain⟨a5,c5,rfl,-,-,-⟩:=id hk;exact⟨a1,c1,a2,c2,a3,c3,a4,c4,a5,c5,rfl,hs0,hc,hl,hk⟩
def Uq(w:World)(B:Nat)(v:Value)(p:Pcl):Prop:=
 ∃cv lv tv uv kv,v=.agg #[.bool p.whole,cv,lv,tv,uv,kv]∧Yl w B (.agg #[cv,lv,tv]) p.st∧Xx w B uv p.ups∧Own w B kv p.clock
theorem Uq.pcl{w:World}{B:Nat}{v:Value}{p:Pcl}(h:Uq w B v p):IsPcl w v p:=by
 obtain⟨cv,lv,tv,uv,kv,h1,h2,h3,h4⟩:=h;exact⟨cv,lv,tv,uv,kv,h1,h2.st,h3.log,h4.row⟩
theorem Uq.below{w w':World}{B C:Nat}{v:Value}{p:Pcl}(h:Uq w B v p)(hb:Below C w w')(hC:w.heap.size≤C):Uq w' B v p:=by
 obtain⟨cv,lv,tv,uv,kv,h1,h2,h3,h4⟩:=h;exact⟨cv,lv,tv,uv,kv,h1,h2.below hb hC,h3.below hb hC,h4.below hb hC⟩
theorem Uq.base{w:World}{B C:Nat}{v:Value}{p:Pcl}(h:Uq w B v p)(hB:C≤B):Uq w C v p:=by
 obtain⟨cv,lv,tv,uv,kv,h1,h2,h3,h4⟩:=h;exact⟨cv,lv,tv,uv,kv,h1,h2.base hB,h3.base hB,h4.mono hB⟩
theorem Uq.away{w:World}{B:Nat}{v:Value}{p:Pcl}(h:Uq w B v p){g:Nat}(hg:g<B)(i:Nat)(x:Value):Uq (w.setCell ⟨g,i,none⟩ x) B v p:=by
 obtain⟨cv,lv,tv,uv,kv,h1,h2,h3,h4⟩:=h;exact⟨cv,lv,tv,uv,kv,h1,h2.away hg i x,h3.away hg i x,h4.away hg i x⟩
theorem Uq.none(w:World)(B:Nat):Uq w B (.agg #[.bool false,.slice none 0 0,.slice none 0 0,.slice none 0 0,.slice none 0 0,.slice none 0 0]) noPcl:=
 ⟨_,_,_,_,_,rfl,Yl.none _ _,Xx.nil _ _,Jm _ _⟩
end Go.Proofs.YtfhecilhcofboaaGreat
/- Logs that are copied, or lack some: in memory of the call's own. -/
namespace Go.Proofs.YtfhecilhcofboaaGreat
open Go.RowKit

set_option maxRecDepth 100000 in
set_option maxHeartbeats 2000000 in
theorem keepO_lacks(lv cv:Value)(l:List Upd)(g:Nat)(xs:List Int)(w:World)(hl:Vh w lv l)(hg:Box w g [cv] 23)(hc:Row w cv xs)(hs:∀u ∈ l,Small u)(hn:l.length≤1000000):
  Calls Tryz.prog 88 #[lv,.func (Fn.func 89) #[] #[.pointer (some ⟨g,0,none⟩)]] w fun e w'=>∃rv,e=.returned rv∧Xx w' w.heap.size rv (Yc l xs)∧Below w.heap.size w w':=by
 obtain⟨i0,hi,hz0,hz1,hz2⟩:=info_parts Tryz.infoUpd;obtain⟨a',cap',rfl,-,-,-⟩:=id hl;have HL:=Za hl;have HG:=Za hg;have HC:=Za hc;have HS:=Za hs;clear hl hg hc hs
 go_enter Tryz.func88,Tryz.ntmps88
 go_wp2_with fail
 go_loopw [5,10] (fun o i wr=>∃(k:Nat) (ps:List (Upd×Value)),k≤l.length∧i=.int .i64 k∧Hid (ps.map (·.1)=Yc (l.take k) xs)∧Hid (zX wr w.heap.size o ps)∧Hid (Below w.heap.size w wr)) (fun _ i _=>l.length - (intOf i).toNat)
 case atStart=>exact⟨0,[],Nat.zero_le _,rfl,rfl,⟨World.ownsRow_nil _ _ _ _,fun p hp=>by simp at hp⟩,Below.refl _ _⟩
 obtain⟨k,ps,hk,rfl,HP,O0,HB0⟩:=hrel;obtain⟨w0,rfl⟩:∃w0,w0=wr:=⟨wr,rfl⟩;have L0:=Za (HL.below HB0.out (nlr _));have G0:=Za (HG.below HB0.out (nlr _));have C0:=Za (HC.below HB0.out (nlr _));clear HL HG HC
 by_cases hlt:k<l.length
 ·obtain⟨u,hu⟩:∃u,l[k]? =some u:=⟨_,List.getElem?_eq_getElem hlt⟩;obtain⟨hf,h6⟩:=HS.out u (List.mem_of_getElem? hu);have HF:=Za hf
  have hpl:Hid (ps.length≤1000000):=by
   have:=congrArg List.length HP.out;have h2:=List.length_filter_le (fun u=> !Xu u xs) (l.take k);have h3:=List.length_take (i:=k) (l:=l);simp only[List.length_map]at this;unfold Yc at this;unfold Hid;omega
  obtain⟨b,off,a5,cap5,rfl,d0,d1,d2,d3,d4,-,hU⟩:=L0.at hu;have U0:=Za hU;clear hU hf;have hlt':(k:Int)<(l.length:Int):=by omega
  have HT:=Za (lacksL_take xs hu)
  cases hsn:Xu u xs
  ·rw[hsn]at HT;have hnot:(!false)=true:=rfl;have HB1:=Za (Zb HB0.out (bpl w0 (.cells #[.int .i64 u.author,.slice a5 u.seen.length cap5,.int .i64 u.kind,.int .i64 u.key,.int .i64 u.item] 33)));have L1:=Za (L0.below (bpl w0 (.cells #[.int .i64 u.author,.slice a5 u.seen.length cap5,.int .i64 u.kind,.int .i64 u.key,.int .i64 u.item] 33)) (nlr _));have G1:=Za (G0.below (bpl w0 (.cells #[.int .i64 u.author,.slice a5 u.seen.length cap5,.int .i64 u.kind,.int .i64 u.key,.int .i64 u.item] 33)) (nlr _));have C1:=Za (C0.below (bpl w0 (.cells #[.int .i64 u.author,.slice a5 u.seen.length cap5,.int .i64 u.kind,.int .i64 u.key,.int .i64 u.item] 33)) (nlr _));have U1:=Za (U0.below (bpl w0 (.cells #[.int .i64 u.author,.slice a5 u.seen.length cap5,.int .i64 u.kind,.int .i64 u.key,.int .i64 u.item] 33)) (nlr _));have O1:=Za (O0.below (bpl w0 (.cells #[.int .i64 u.author,.slice a5 u.seen.length cap5,.int .i64 u.kind,.int .i64 u.key,.int .i64 u.item] 33)) (nlr _));have V1:=Za (Box.new w0 [.int .i64 u.author,.slice a5 u.seen.length cap5,.int .i64 u.kind,.int .i64 u.key,.int .i64 u.item] 33);clear HB0 L0 G0 C0 U0 O0
   go_wp2_with fail
   refine(lacks_fn _ u g cv xs _ U1.out G1.out C1.out HF.out).mono ?_;rintro e w2 ⟨rfl,hb⟩;have HB2:=Za (Zb HB1.out hb);have L2:=Za (L1.below hb (nlr _));have G2:=Za (G1.below hb (nlr _));have C2:=Za (C1.below hb (nlr _));have U2:=Za (U1.below hb (nlr _));have O2:=Za (O1.below hb (nlr _));have V2:=Za (V1.below hb (nlr _));clear HB1 hb L1 G1 C1 U1 O1 V1;rw[hsn];obtain⟨cV0,cV1,cV2,cV3,cV4⟩:=V2.c5;have hsz:=HB2.size
   go_wp2_with fail
   refine(copy_upd _ u _ U2.out (by omega)).mono ?_;rintro e w3 ⟨vN,rfl,ho,hb⟩;have HB3:=Za (Zb HB2.out hb);have L3:=Za (L2.below hb (nlr _));have G3:=Za (G2.below hb (nlr _));have C3:=Za (C2.below hb (nlr _));have U3:=Za (U2.below hb (nlr _));have O3:=Za (O2.below hb (nlr _));have V3:=Za (V2.below hb (nlr _));have N3:=Za ho;clear HB2 hb L2 G2 C2 U2 O2 V2;clear ho;replace N3:=Za (Own.mono N3.out hsz)
   go_wp2_with (at_builtin;refine wpList_append_own _ rfl (.tmp 17) (.tmp 20) 28 rfl w.heap.size 33 i0 (.agg #[.int .i64 0,.slice none 0 0,.int .i64 0,.int .i64 0,.int .i64 0]) 5 56 Tryz.underlying28 hi hz0 hz1 hz2 rfl (by decide) _ _ _ rfl (O3.alloc _).1 ⟨w3.heap.size,0,none⟩ 1 1 (Yn u vN) rfl rfl ?c1 ?c2 ?c3 ?c4 ?c5 ?_)
   case c1=>intro j q hj;match j,hj with|0,hj=>(simp[Yn]at hj;subst hj;simp[Addr.add])|1,hj=>(simp[Yn]at hj;subst hj;simp[Addr.add])|2,hj=>(simp[Yn]at hj;subst hj;simp[Addr.add])|3,hj=>(simp[Yn]at hj;subst hj;simp[Addr.add])|4,hj=>(simp[Yn]at hj;subst hj;simp[Addr.add])|(j+5),hj=>simp[Yn]at hj
   case c2=>exact Ud N3.row.one
   case c3=>unfold maxLen;have:=hpl.out;omega
   case c4=>have:=hpl.out;omega
   case c5=>have:=HB3.size;simp;omega
   intro v' w4 hown' hgrow _;have HB4:=Za (((Below.plus HB3.out _).grown hgrow (by have:=HB3.size;simp;omega) (fun g hg=>(O3.1.lt g hg).1)));have O4:=Za ((O3.alloc _).more (Own.below N3.out ((Below.refl w3.heap.size w3).alloc (nlr _) _) (nlr _)) hown' hgrow);clear hown' hgrow
   go_wp2_with fail
   go_roundw
   case rel=>exact⟨k+1,ps++[(u,vN)],by omega,by go_num,Za (by rw[HT.out,List.map_append,HP.out];rfl),O4,HB4⟩
   case measure=>simp[intOf];omega
  rw[hsn]at HT;have HB1:=Za (Zb HB0.out (bpl w0 (.cells #[.int .i64 u.author,.slice a5 u.seen.length cap5,.int .i64 u.kind,.int .i64 u.key,.int .i64 u.item] 33)));have L1:=Za (L0.below (bpl w0 (.cells #[.int .i64 u.author,.slice a5 u.seen.length cap5,.int .i64 u.kind,.int .i64 u.key,.int .i64 u.item] 33)) (nlr _));have G1:=Za (G0.below (bpl w0 (.cells #[.int .i64 u.author,.slice a5 u.seen.length cap5,.int .i64 u.kind,.int .i64 u.key,.int .i64 u.item] 33)) (nlr _));have C1:=Za (C0.below (bpl w0 (.cells #[.int .i64 u.author,.slice a5 u.seen.length cap5,.int .i64 u.kind,.int .i64 u.key,.int .i64 u.item] 33)) (nlr _));have U1:=Za (U0.below (bpl w0 (.cells #[.int .i64 u.author,.slice a5 u.seen.length cap5,.int .i64 u.kind,.int .i64 u.key,.int .i64 u.item] 33)) (nlr _));have O1:=Za (O0.below (bpl w0 (.cells #[.int .i64 u.author,.slice a5 u.seen.length cap5,.int .i64 u.kind,.int .i64 u.key,.int .i64 u.item] 33)) (nlr _));have V1:=Za (Box.new w0 [.int .i64 u.author,.slice a5 u.seen.length cap5,.int .i64 u.kind,.int .i64 u.key,.int .i64 u.item] 33);clear HB0 L0 G0 C0 U0 O0
  go_wp2_with fail
  refine(lacks_fn _ u g cv xs _ U1.out G1.out C1.out HF.out).mono ?_;rintro e w2 ⟨rfl,hb⟩;have HB2:=Za (Zb HB1.out hb);have L2:=Za (L1.below hb (nlr _));have G2:=Za (G1.below hb (nlr _));have C2:=Za (C1.below hb (nlr _));have U2:=Za (U1.below hb (nlr _));have O2:=Za (O1.below hb (nlr _));have V2:=Za (V1.below hb (nlr _));clear HB1 hb L1 G1 C1 U1 O1 V1;rw[hsn]
  go_wp2_with fail
  go_roundw
  case rel=>exact⟨k+1,ps,by omega,by go_num,Za (by rw[HT.out,HP.out];rfl),O2.out,HB2.out⟩
  case measure=>simp[intOf];omega
 have hkl:l.take k=l:=List.take_of_length_le (by omega);rw[hkl]at HP;have hlt':¬(k:Int)<(l.length:Int):=by omega
 go_wp2_with fail
 go_ret
 exact⟨_,rfl,⟨ps,O0.out,HP.out⟩,HB0.out⟩

set_option maxRecDepth 100000 in
set_option maxHeartbeats 1000000 in
theorem lacks_own(lv cv:Value)(l:List Upd)(xs:List Int)(w:World)(hl:Vh w lv l)(hc:Row w cv xs)(hs:∀u ∈ l,Small u)(hn:l.length≤1000000):
  Calls Tryz.prog 44 #[lv,cv] w fun e w'=>∃rv,e=.returned rv∧Xx w' w.heap.size rv (Yc l xs)∧Below w.heap.size w w':=by
 obtain⟨a',cap',rfl,-,-,-⟩:=id hl;obtain⟨a,cap,rfl,-,-,-⟩:=id hc;have L0:=Za (hl.alloc (.cells #[.slice a xs.length cap] 23));have C0:=Za (hc.alloc (.cells #[.slice a xs.length cap] 23));have G0:=Za (Box.new w [.slice a xs.length cap] 23);have HB0:=Za (bpl w (.cells #[.slice a xs.length cap] 23));clear hl hc
 go_enter Tryz.func44,Tryz.ntmps44
 go_wp2_with fail
 refine(keepO_lacks _ _ l w.heap.size xs _ L0.out G0.out C0.out hs hn).mono ?_;rintro e w1 ⟨rv,rfl,h,hb⟩;have H:=Za (h.base (C:=w.heap.size) (by simp));have HB1:=Za (Zb HB0.out hb);clear h hb
 go_wp2_with fail
 go_ret
 exact⟨_,rfl,H.out,HB1.out⟩
set_option maxRecDepth 100000 in
set_option maxHeartbeats 1000000 in
theorem copy_one(v:Value)(u:Upd)(w:World)(h:Jf w v u):
  Calls Tryz.prog 111 #[v] w fun e w'=>e=.returned (.bool true)∧Below w.heap.size w w':=by
 obtain⟨sv,rfl,hs⟩:=h;obtain⟨a5,cap5,rfl,-,-,-⟩:=id hs;have HB0:=Za (bpl w (.cells #[.int .i64 u.author,.slice a5 u.seen.length cap5,.int .i64 u.kind,.int .i64 u.key,.int .i64 u.item] 33));clear hs
 go_enter Tryz.func111,Tryz.ntmps111
 go_wp2_with fail
 go_ret
 exact⟨rfl,HB0.out⟩
set_option maxRecDepth 100000 in
set_option maxHeartbeats 2000000 in
theorem keepO_copy(lv:Value)(l:List Upd)(w:World)(hl:Vh w lv l)(hs:∀u ∈ l,Small u)(hn:l.length≤1000000):
  Calls Tryz.prog 88 #[lv,.func (Fn.func 111) #[] #[]] w fun e w'=>∃rv,e=.returned rv∧Xx w' w.heap.size rv l∧Below w.heap.size w w':=by
 obtain⟨i0,hi,hz0,hz1,hz2⟩:=info_parts Tryz.infoUpd;obtain⟨a',cap',rfl,-,-,-⟩:=id hl;have HL:=Za hl;have HS:=Za hs;clear hl hs
 go_enter Tryz.func88,Tryz.ntmps88
 go_wp2_with fail
 go_loopw [5,10] (fun o i wr=>∃(k:Nat) (ps:List (Upd×Value)),k≤l.length∧i=.int .i64 k∧Hid (ps.map (·.1)=l.take k)∧Hid (zX wr w.heap.size o ps)∧Hid (Below w.heap.size w wr)) (fun _ i _=>l.length - (intOf i).toNat)
 case atStart=>exact⟨0,[],Nat.zero_le _,rfl,rfl,⟨World.ownsRow_nil _ _ _ _,fun p hp=>by simp at hp⟩,Below.refl _ _⟩
 obtain⟨k,ps,hk,rfl,HP,O0,HB0⟩:=hrel;obtain⟨w0,rfl⟩:∃w0,w0=wr:=⟨wr,rfl⟩;have L0:=Za (HL.below HB0.out (nlr _));clear HL
 by_cases hlt:k<l.length
 ·obtain⟨u,hu⟩:∃u,l[k]? =some u:=⟨_,List.getElem?_eq_getElem hlt⟩;obtain⟨hf,h6⟩:=HS.out u (List.mem_of_getElem? hu)
  have hpl:Hid (ps.length≤1000000):=by
   have:=congrArg List.length HP.out;simp only[List.length_map,List.length_take]at this;unfold Hid;omega
  obtain⟨b,off,a5,cap5,rfl,d0,d1,d2,d3,d4,-,hU⟩:=L0.at hu;have U0:=Za hU;clear hU hf;have hlt':(k:Int)<(l.length:Int):=by omega
  have HT:=Za (take_one hu);have HB1:=Za (Zb HB0.out (bpl w0 (.cells #[.int .i64 u.author,.slice a5 u.seen.length cap5,.int .i64 u.kind,.int .i64 u.key,.int .i64 u.item] 33)));have L1:=Za (L0.below (bpl w0 (.cells #[.int .i64 u.author,.slice a5 u.seen.length cap5,.int .i64 u.kind,.int .i64 u.key,.int .i64 u.item] 33)) (nlr _));have U1:=Za (U0.below (bpl w0 (.cells #[.int .i64 u.author,.slice a5 u.seen.length cap5,.int .i64 u.kind,.int .i64 u.key,.int .i64 u.item] 33)) (nlr _));have O1:=Za (O0.below (bpl w0 (.cells #[.int .i64 u.author,.slice a5 u.seen.length cap5,.int .i64 u.kind,.int .i64 u.key,.int .i64 u.item] 33)) (nlr _));have V1:=Za (Box.new w0 [.int .i64 u.author,.slice a5 u.seen.length cap5,.int .i64 u.kind,.int .i64 u.key,.int .i64 u.item] 33);clear HB0 L0 U0 O0
  go_wp2_with fail
  refine(copy_one _ u _ U1.out).mono ?_;rintro e w2 ⟨rfl,hb⟩;have HB2:=Za (Zb HB1.out hb);have L2:=Za (L1.below hb (nlr _));have U2:=Za (U1.below hb (nlr _));have O2:=Za (O1.below hb (nlr _));have V2:=Za (V1.below hb (nlr _));clear HB1 hb L1 U1 O1 V1;obtain⟨cV0,cV1,cV2,cV3,cV4⟩:=V2.c5;have hsz:=HB2.size
  go_wp2_with fail
  refine(copy_upd _ u _ U2.out (by omega)).mono ?_;rintro e w3 ⟨vN,rfl,ho,hb⟩;have HB3:=Za (Zb HB2.out hb);have L3:=Za (L2.below hb (nlr _));have U3:=Za (U2.below hb (nlr _));have O3:=Za (O2.below hb (nlr _));have V3:=Za (V2.below hb (nlr _));have N3:=Za ho;clear HB2 hb L2 U2 O2 V2;clear ho;replace N3:=Za (Own.mono N3.out hsz)
  go_wp2_with (at_builtin;refine wpList_append_own _ rfl (.tmp 17) (.tmp 20) 28 rfl w.heap.size 33 i0 (.agg #[.int .i64 0,.slice none 0 0,.int .i64 0,.int .i64 0,.int .i64 0]) 5 56 Tryz.underlying28 hi hz0 hz1 hz2 rfl (by decide) _ _ _ rfl (O3.alloc _).1 ⟨w3.heap.size,0,none⟩ 1 1 (Yn u vN) rfl rfl ?c1 ?c2 ?c3 ?c4 ?c5 ?_)
  case c1=>intro j q hj;match j,hj with|0,hj=>(simp[Yn]at hj;subst hj;simp[Addr.add])|1,hj=>(simp[Yn]at hj;subst hj;simp[Addr.add])|2,hj=>(simp[Yn]at hj;subst hj;simp[Addr.add])|3,hj=>(simp[Yn]at hj;subst hj;simp[Addr.add])|4,hj=>(simp[Yn]at hj;subst hj;simp[Addr.add])|(j+5),hj=>simp[Yn]at hj
  case c2=>exact Ud N3.row.one
  case c3=>unfold maxLen;have:=hpl.out;omega
  case c4=>have:=hpl.out;omega
  case c5=>have:=HB3.size;simp;omega
  intro v' w4 hown' hgrow _;have HB4:=Za (((Below.plus HB3.out _).grown hgrow (by have:=HB3.size;simp;omega) (fun g hg=>(O3.1.lt g hg).1)));have O4:=Za ((O3.alloc _).more (Own.below N3.out ((Below.refl w3.heap.size w3).alloc (nlr _) _) (nlr _)) hown' hgrow);clear hown' hgrow
  go_wp2_with fail
  go_roundw
  case rel=>exact⟨k+1,ps++[(u,vN)],by omega,by go_num,Za (by rw[HT.out,List.map_append,HP.out];rfl),O4,HB4⟩
  case measure=>simp[intOf];omega
 have hkl:l.take k=l:=List.take_of_length_le (by omega);rw[hkl]at HP;have hlt':¬(k:Int)<(l.length:Int):=by omega
 go_wp2_with fail
 go_ret
 exact⟨_,rfl,⟨ps,O0.out,HP.out⟩,HB0.out⟩

set_option maxRecDepth 100000 in
set_option maxHeartbeats 1000000 in
theorem copy_log(lv:Value)(l:List Upd)(w:World)(hl:Vh w lv l)(hs:∀u ∈ l,Small u)(hn:l.length≤1000000):
  Calls Tryz.prog 80 #[lv] w fun e w'=>∃rv,e=.returned rv∧Xx w' w.heap.size rv l∧Below w.heap.size w w':=by
 obtain⟨a',cap',rfl,-,-,-⟩:=id hl;have L0:=Za hl;clear hl
 go_enter Tryz.func80,Tryz.ntmps80
 go_wp2_with fail
 refine(keepO_copy _ l _ L0.out hs hn).mono ?_;rintro e w1 ⟨rv,rfl,h,hb⟩;have H:=Za h;have HB1:=Za hb;clear h hb
 go_wp2_with fail
 go_ret
 exact⟨_,rfl,H.out,HB1.out⟩
end Go.Proofs.YtfhecilhcofboaaGreat
