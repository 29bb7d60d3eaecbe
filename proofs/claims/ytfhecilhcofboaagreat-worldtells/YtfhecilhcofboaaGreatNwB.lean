/- The document's own world in memory: its nodes, and what is on its ways. -/
import Derived.Test.YtfhecilhcofboaaGreatNrE
import Derived.Test.YtfhecilhcofboaaGreatWdD
namespace Go.Proofs.YtfhecilhcofboaaGreat
open Go.RowKit

def encN(q:NdS×Value×Value×Value×Value×Value×Value):List Value:=[.int .i64 q.1.self,q.2.1,q.2.2.1,q.2.2.2.1,q.2.2.2.2.1,q.2.2.2.2.2.1,q.2.2.2.2.2.2]
def encQ(q:Pcl×Value×Value×Value×Value×Value):List Value:=[.bool q.1.whole,q.2.1,q.2.2.1,q.2.2.2.1,q.2.2.2.2.1,q.2.2.2.2.2]
theorem encN_len(q:NdS×Value×Value×Value×Value×Value×Value):(encN q).length=7:=rfl
def NdG(S:Nat→Prop)(w:World)(q:NdS×Value×Value×Value×Value×Value×Value):Prop:=NdF S w q.2.1 q.2.2.1 q.2.2.2.1 q.2.2.2.2.1 q.2.2.2.2.2.1 q.2.2.2.2.2.2 q.1
def PcG(S:Nat→Prop)(w:World)(q:Pcl×Value×Value×Value×Value×Value):Prop:=PcF S w q.2.1 q.2.2.1 q.2.2.2.1 q.2.2.2.2.1 q.2.2.2.2.2 q.1
def PwR(S:Nat→Prop)(w:World)(v:Value)(ps:List Pcl):Prop:=∃qs:List (Pcl×Value×Value×Value×Value×Value),qs.map (·.1)=ps∧(Fix S w fun w=>Yf 6 encQ w v qs)∧∀q ∈ qs,PcG S w q
section
variable {S S':Nat→Prop}{w w':World}{v:Value}{ps:List Pcl}
theorem Fix.turn{P:World→Prop}(h:Fix S w P)(ho:Off S w w')(hs:∀k,k<w.heap.size→S' k→S k):Fix S' w' P:=fun w2 h2=>h w2
 ⟨h2.os.trans ho.os,h2.tape.trans ho.tape,h2.output.trans ho.output,Nat.le_trans ho.size h2.size,fun k hk hn=>(h2.block k (Nat.lt_of_lt_of_le hk ho.size) fun hh=>hn (hs k hk hh)).trans (ho.block k hk hn)⟩
theorem Og.turn{l:List Upd}(h:Og S w v l)(ho:Off S w w')(hs:∀k,k<w.heap.size→S' k→S k):Og S' w' v l:=by
 obtain⟨ps,h1,h2,h3⟩:=h;exact⟨ps,h1,h2.turn ho hs,fun p hp=>(h3 p hp).turn ho hs⟩
theorem NdF.turn{x1 x2 x3 x4 x5 x6:Value}{d:NdS}(h:NdF S w x1 x2 x3 x4 x5 x6 d)(ho:Off S w w')(hs:∀k,k<w.heap.size→S' k→S k):NdF S' w' x1 x2 x3 x4 x5 x6 d:=by
 obtain⟨h1,h2,h3,qs,k1,k2,k3⟩:=h;exact⟨h1.turn ho hs,h2.turn ho hs,h3.turn ho hs,qs,k1,k2.turn ho hs,fun p hp=>(k3 p hp).turn ho hs⟩
theorem PcF.turn{x1 x2 x3 x4 x5:Value}{p:Pcl}(h:PcF S w x1 x2 x3 x4 x5 p)(ho:Off S w w')(hs:∀k,k<w.heap.size→S' k→S k):PcF S' w' x1 x2 x3 x4 x5 p:=⟨h.st.turn ho hs,h.ups.turn ho hs,h.clk.turn ho hs⟩
theorem PwR.turn(h:PwR S w v ps)(ho:Off S w w')(hs:∀k,k<w.heap.size→S' k→S k):PwR S' w' v ps:=by
 obtain⟨qs,h1,h2,h3⟩:=h;exact⟨qs,h1,h2.turn ho hs,fun q hq=>PcF.turn (h3 q hq) ho hs⟩
theorem PwR.off(h:PwR S w v ps)(ho:Off S w w'):PwR S w' v ps:=by
 obtain⟨qs,h1,h2,h3⟩:=h;exact⟨qs,h1,h2.off ho,fun q hq=>PcF.off (h3 q hq) ho⟩
theorem PwR.nil(a:Option Addr):PwR S w (.slice a 0 0) []:=⟨[],rfl,fun _ _=>⟨a,0,rfl,nlr _,by unfold maxLen;omega,fun i x hi=>by simp at hi⟩,fun q hq=>by simp at hq⟩
theorem PwR.form(h:PwR S w v ps):∃a c,v=.slice a ps.length c∧ps.length≤c∧c≤maxLen:=by
 obtain⟨qs,rfl,h2,-⟩:=h;obtain⟨a,c,e,h3,h4,-⟩:=h2.here;rw[List.length_map];exact⟨a,c,e,h3,h4⟩
theorem PwR.head{p:Pcl}{r:List Pcl}{a:Option Addr}{m c:Nat}(h:PwR S w (.slice a m c) (p::r)):
  ∃b off x1 x2 x3 x4 x5,a=some ⟨b,off,none⟩∧PcF S w x1 x2 x3 x4 x5 p∧
   (w.cell? ⟨b,off,none⟩=some (.bool p.whole)∧w.cell? ⟨b,off+1,none⟩=some x1∧w.cell? ⟨b,off+2,none⟩=some x2∧w.cell? ⟨b,off+3,none⟩=some x3∧w.cell? ⟨b,off+4,none⟩=some x4∧w.cell? ⟨b,off+5,none⟩=some x5)∧
   PwR S w (.slice (some ⟨b,off+6,none⟩) r.length (c - 1)) r:=by
 obtain⟨qs,h1,h2,h3⟩:=h
 cases qs with
 |nil=>simp at h1
 |cons q s=>
  simp only[List.map_cons,List.cons.injEq]at h1;obtain⟨rfl,rfl⟩:=h1;obtain⟨a',c',e,hl,hm,hat⟩:=h2.here;simp only[Value.slice.injEq,List.length_cons]at e hl;obtain⟨rfl,rfl,rfl⟩:=e;obtain⟨b,off,rfl,hc⟩:=hat 0 q rfl;have cell:∀j x,(encQ q)[j]? =some x→w.cell? ⟨b,off+j,none⟩=some x:=fun j x hj=>by have:=hc j x hj;rwa[Nat.zero_mul,Nat.add_zero]at this
  refine⟨b,off,q.2.1,q.2.2.1,q.2.2.2.1,q.2.2.2.2.1,q.2.2.2.2.2,rfl,h3 q (by simp),⟨cell 0 _ rfl,cell 1 _ rfl,cell 2 _ rfl,cell 3 _ rfl,cell 4 _ rfl,cell 5 _ rfl⟩,s,rfl,fun w2 ho=>?_,fun q' hq'=>h3 q' (by simp[hq'])⟩;obtain⟨a',c',e,hl,hm,hat⟩:=h2 w2 ho;simp only[Value.slice.injEq,List.length_cons]at e hl;obtain⟨rfl,-,rfl⟩:=e;refine⟨_,_,by rw[List.length_map],by omega,by omega,fun i x hi=>?_⟩;obtain⟨b',off',e',hc'⟩:=hat (i+1) x (by simpa using hi);simp only[Option.some.injEq,Addr.mk.injEq,and_true]at e';obtain⟨rfl,rfl⟩:=e';refine⟨_,_,rfl,fun j y hj=>?_⟩;have:=hc' j y hj
  rwa[show off+(i+1)*6+j=off+6+i*6+j by omega]at this
end

structure DwX (S:Nat→Prop) (w:World) (W:WdS) (g gn gw cn cw:Nat) (gr:Nat→Nat):Prop where
 few:W.nodes.length≤6
 wl:W.way.length=W.nodes.length
 wr:∀a,a<W.nodes.length→(W.way.getD a []).length=W.nodes.length
 box:Box w g [.slice (some ⟨gn,0,none⟩) W.nodes.length cn,.slice (some ⟨gw,0,none⟩) W.nodes.length cw] 52
 nc:W.nodes.length≤cn
 nodes:∃qs,qs.map (·.1)=W.nodes∧Zu 31 7 encN w gn cn qs∧∀q ∈ qs,NdG S w q
 way:∀a,a<W.nodes.length→w.cell? ⟨gw,a,none⟩=some (.slice (some ⟨gr a,0,none⟩) W.nodes.length W.nodes.length)
 rows:∀a,a<W.nodes.length→∃rs,Box w (gr a) rs 103∧rs.length=W.nodes.length∧∀b,b<W.nodes.length→PwR S w (rs.getD b (.slice none 0 0)) ((W.way.getD a []).getD b [])
 inj:∀a b,a<W.nodes.length→b<W.nodes.length→gr a=gr b→a=b
 sn:S gn
 sr:∀a,a<W.nodes.length→S (gr a)
 sg:¬S g
 sw:¬S gw
section
variable {S:Nat→Prop}{w w':World}{W:WdS}{g gn gw cn cw:Nat}{gr:Nat→Nat}
theorem DwX.below(h:DwX S w W g gn gw cn cw gr)(hb:Below w.heap.size w w'):DwX S w' W g gn gw cn cw gr:=by
 have ho:Off S w w':=zM hb (nlr _);refine⟨h.few,h.wl,h.wr,h.box.below hb (nlr _),h.nc,?_,fun a ha=>Yi hb (h.way a ha),fun a ha=>?_,h.inj,h.sn,h.sr,h.sg,h.sw⟩
 ·obtain⟨qs,h1,h2,h3⟩:=h.nodes;exact⟨qs,h1,h2.below hb (nlr _),fun q hq=>NdF.off (h3 q hq) ho⟩
 obtain⟨rs,h1,h2,h3⟩:=h.rows a ha;exact⟨rs,h1.below hb (nlr _),h2,fun b hb'=>(h3 b hb').off ho⟩
theorem node_at{i:Nat}(hi:i<W.nodes.length):W.nodes[i]? =some (Xa W i):=by
 unfold Xa;rw[Int.toNat_natCast,List.getD_eq_getElem?_getD,List.getElem?_eq_getElem hi];rfl
theorem DwX.node(h:DwX S w W g gn gw cn cw gr){i:Nat}(hi:i<W.nodes.length):∃x1 x2 x3 x4 x5 x6,NdF S w x1 x2 x3 x4 x5 x6 (Xa W i)∧(w.cell? ⟨gn,i*7,none⟩=some (.int .i64 (Xa W i).self)∧w.cell? ⟨gn,i*7+1,none⟩=some x1∧w.cell? ⟨gn,i*7+2,none⟩=some x2∧w.cell? ⟨gn,i*7+3,none⟩=some x3∧w.cell? ⟨gn,i*7+4,none⟩=some x4∧w.cell? ⟨gn,i*7+5,none⟩=some x5∧w.cell? ⟨gn,i*7+6,none⟩=some x6)∧∀j,w.frozen? ⟨gn,j,none⟩=false:=by
 obtain⟨qs,h1,h2,h3⟩:=h.nodes;have hd:=node_at hi;rw[←h1,List.getElem?_map,Option.map_eq_some_iff]at hd;obtain⟨q,hq,e⟩:=hd;have hc:=fun j c hj=>h2.at encN_len hq (j:=j) (c:=c) hj;rw[←e];exact⟨_,_,_,_,_,_,h3 q (List.mem_of_getElem? hq),⟨hc 0 _ rfl,hc 1 _ rfl,hc 2 _ rfl,hc 3 _ rfl,hc 4 _ rfl,hc 5 _ rfl,hc 6 _ rfl⟩,h2.free⟩
theorem DwX.at(h:DwX S w W g gn gw cn cw gr){a b:Nat}(ha:a<W.nodes.length)(hb:b<W.nodes.length):
  ∃rs av c,Box w (gr a) rs 103∧rs[b]? =some (.slice av (Oi W a b).length c)∧PwR S w (.slice av (Oi W a b).length c) (Oi W a b)∧(Oi W a b).length≤c∧c≤maxLen:=by
 obtain⟨rs,h1,h2,h3⟩:=h.rows a ha;have hp:=h3 b hb;rw[show(W.way.getD a []).getD b []=Oi W a b from rfl]at hp;obtain⟨av,c,e,hl,hm⟩:=hp.form;rw[e]at hp;refine⟨rs,av,c,h1,?_,hp,hl,hm⟩;rw[←e,List.getD_eq_getElem?_getD,List.getElem?_eq_getElem (by omega)];rfl
def Wt(gn:Nat)(gr:Nat→Nat)(n:Nat):Nat→Prop:=fun j=>j=gn∨∃a,a<n∧j=gr a
theorem DwX.putN(h:DwX S w W g gn gw cn cw gr){i:Nat}{d:NdS}{x1 x2 x3 x4 x5 x6:Value}(hi:i<W.nodes.length)(hd:NdF S w x1 x2 x3 x4 x5 x6 d):
  DwX S (((((((w.setCell ⟨gn,i*7,none⟩ (.int .i64 d.self)).setCell ⟨gn,i*7+1,none⟩ x1).setCell ⟨gn,i*7+2,none⟩ x2).setCell ⟨gn,i*7+3,none⟩ x3).setCell ⟨gn,i*7+4,none⟩ x4).setCell ⟨gn,i*7+5,none⟩ x5).setCell ⟨gn,i*7+6,none⟩ x6) (Ow W i d) g gn gw cn cw gr∧
  Off (fun k=>k=gn) w (((((((w.setCell ⟨gn,i*7,none⟩ (.int .i64 d.self)).setCell ⟨gn,i*7+1,none⟩ x1).setCell ⟨gn,i*7+2,none⟩ x2).setCell ⟨gn,i*7+3,none⟩ x3).setCell ⟨gn,i*7+4,none⟩ x4).setCell ⟨gn,i*7+5,none⟩ x5).setCell ⟨gn,i*7+6,none⟩ x6):=by
 have og:=((((((((Off.refl (fun k=>k=gn) w).set rfl (i*7) (.int .i64 d.self)).set rfl (i*7+1) x1).set rfl (i*7+2) x2).set rfl (i*7+3) x3).set rfl (i*7+4) x4).set rfl (i*7+5) x5).set rfl (i*7+6) x6);have ho:Off S w _:=og.sub fun k hk=>by rw[hk];exact h.sn
 have hl:(Ow W i d).nodes.length=W.nodes.length:=by unfold Ow;simp
 obtain⟨qs,h1,h2,h3⟩:=h.nodes;have hq:i<qs.length:=by rw[←h1,List.length_map]at hi;exact hi
 have h4:=h2.set encN_len (d,x1,x2,x3,x4,x5,x6) hq (by have:=h.nc;rw[←h1,List.length_map]at this;exact this);refine⟨⟨by rw[hl];exact h.few,by rw[hl];exact h.wl,fun a ha=>by rw[hl]at ha ⊢;exact h.wr a ha,by rw[hl];exact h.box.off og (fun e=>h.sg (e ▸ h.sn)),by rw[hl];exact h.nc,⟨_,?_,h4,fun q hm=>?_⟩,fun a ha=>?_,fun a ha=>?_,fun a b ha hb=>?_,h.sn,fun a ha=>?_,h.sg,h.sw⟩,og⟩
 ·rw[List.map_set,h1];rfl
 ·rcases List.mem_or_eq_of_mem_set hm with hm|rfl
  ·exact NdF.off (h3 q hm) ho
  exact NdF.off hd ho
 ·rw[hl]at ha ⊢;have hc:=h.way a ha;have hlt:=World.block_lt_of_cell? w _ hc;unfold World.cell? at hc ⊢;rw[og.block gw hlt fun e=>h.sw (e ▸ h.sn)];exact hc
 ·rw[hl]at ha ⊢;obtain⟨rs,k1,k2,k3⟩:=h.rows a ha;refine⟨rs,k1.off og fun e=>?_,k2,fun b hb=>(k3 b hb).off ho⟩;obtain⟨cur,e1,-⟩:=h2;rw[←e]at e1;have:=k1.symm.trans e1
  simp at this
 ·rw[hl]at ha hb;exact h.inj a b ha hb
 rw[hl]at ha;exact h.sr a ha
theorem DwX.putW(h:DwX S w W g gn gw cn cw gr){a b:Nat}{v:Value}{l:List Pcl}(ha:a<W.nodes.length)(hb:b<W.nodes.length)(hv:PwR S w v l):
  DwX S (w.setCell ⟨gr a,b,none⟩ v) (Qy W a b l) g gn gw cn cw gr∧Off (fun k=>k=gr a) w (w.setCell ⟨gr a,b,none⟩ v):=by
 have og:=(Off.refl (fun k=>k=gr a) w).set rfl b v;have ho:Off S w _:=og.sub fun k hk=>by rw[hk];exact h.sr a ha
 have haw:a<W.way.length:=by rw[h.wl];exact ha
 have hbw:b<(W.way.getD a []).length:=by rw[h.wr a ha];exact hb
 obtain⟨rs,r1,r2,r3⟩:=h.rows a ha;refine⟨⟨h.few,?_,fun c hc=>?_,h.box.off og (fun e=>h.sg (e ▸ h.sr a ha)),h.nc,?_,fun c hc=>?_,fun c hc=>?_,h.inj,h.sn,h.sr,h.sg,h.sw⟩,og⟩
 ·show(W.way.set _ _).length=_
  rw[List.length_set];exact h.wl
 ·show((W.way.set (a:Int).toNat _).getD c []).length=_
  rw[Int.toNat_natCast,zD haw]
  split
  ·rw[List.length_set];exact h.wr a ha
  exact h.wr c hc
 ·obtain⟨qs,h1,h2,h3⟩:=h.nodes;refine⟨qs,h1,?_,fun q hq=>NdF.off (h3 q hq) ho⟩;obtain⟨cur,e1,e2⟩:=h2;refine⟨cur,(og.block gn (lt_of_block e1) fun e=>?_).trans e1,e2⟩;rw[e]at e1;have:=r1.symm.trans e1
  simp at this
 ·have hc':=h.way c hc;have hlt:=World.block_lt_of_cell? w _ hc';unfold World.cell? at hc' ⊢;rw[og.block gw hlt fun e=>h.sw (e ▸ h.sr a ha)];exact hc'
 show∃rs,Box _ (gr c) rs _∧rs.length=W.nodes.length∧∀d,d<W.nodes.length→PwR S _ (rs.getD d (.slice none 0 0)) (((W.way.set (a:Int).toNat ((W.way.getD (a:Int).toNat []).set (b:Int).toNat l)).getD c []).getD d [])
 rw[Int.toNat_natCast,Int.toNat_natCast,zD haw]
 by_cases hca:c=a
 ·subst hca;rw[if_pos rfl];refine⟨_,r1.set b v,by rw[List.length_set];exact r2,fun d hd=>?_⟩;rw[zD (by omega),zD hbw]
  by_cases hdb:d=b
  ·rw[if_pos hdb,if_pos hdb];exact hv.off ho
  rw[if_neg hdb,if_neg hdb]
  exact(r3 d hd).off ho
 rw[if_neg hca];obtain⟨ss,s1,s2,s3⟩:=h.rows c hc;exact⟨ss,s1.off og (fun e=>hca (h.inj c a hc ha e)),s2,fun d hd=>(s3 d hd).off ho⟩
end
end Go.Proofs.YtfhecilhcofboaaGreat
/- The document's own Step: what happens to a world. -/
namespace Go.Proofs.YtfhecilhcofboaaGreat
open Go.RowKit

section
variable {S:Nat→Prop}{w W W':World}{d:NdS}{p:Pcl}{v:Value}
theorem NdR.off(h:NdR S w v d)(ho:Off S w W):NdR S W v d:=by
 obtain⟨x1,x2,x3,x4,x5,x6,e,hF⟩:=h;exact⟨x1,x2,x3,x4,x5,x6,e,hF.off ho⟩
theorem late7{n:Nat}{c0 c1 c2 c3 c4 c5 c6 x1 x2 x3 x4 x5 x6:Value}{a b:Nat}(hb:Box W n [c0,c1,c2,c3,c4,c5,c6] 31)(hF:NdF (Us S a b) w x1 x2 x3 x4 x5 x6 d)(HB:Below w.heap.size w W)(hn:w.heap.size≤n):
  Box (((((((W.setCell ⟨n,0,none⟩ (.int .i64 d.self)).setCell ⟨n,1,none⟩ (x1)).setCell ⟨n,2,none⟩ (x2)).setCell ⟨n,3,none⟩ (x3)).setCell ⟨n,4,none⟩ (x4)).setCell ⟨n,5,none⟩ (x5)).setCell ⟨n,6,none⟩ (x6)) n [.int .i64 d.self,x1,x2,x3,x4,x5,x6] 31∧NdF S (((((((W.setCell ⟨n,0,none⟩ (.int .i64 d.self)).setCell ⟨n,1,none⟩ (x1)).setCell ⟨n,2,none⟩ (x2)).setCell ⟨n,3,none⟩ (x3)).setCell ⟨n,4,none⟩ (x4)).setCell ⟨n,5,none⟩ (x5)).setCell ⟨n,6,none⟩ (x6)) x1 x2 x3 x4 x5 x6 d∧Below w.heap.size w (((((((W.setCell ⟨n,0,none⟩ (.int .i64 d.self)).setCell ⟨n,1,none⟩ (x1)).setCell ⟨n,2,none⟩ (x2)).setCell ⟨n,3,none⟩ (x3)).setCell ⟨n,4,none⟩ (x4)).setCell ⟨n,5,none⟩ (x5)).setCell ⟨n,6,none⟩ (x6)):=by
 have hB:=((((((HB.setCell (p:=⟨n,0,none⟩) hn (.int .i64 d.self)).setCell (p:=⟨n,1,none⟩) hn x1).setCell (p:=⟨n,2,none⟩) hn x2).setCell (p:=⟨n,3,none⟩) hn x3).setCell (p:=⟨n,4,none⟩) hn x4).setCell (p:=⟨n,5,none⟩) hn x5).setCell (p:=⟨n,6,none⟩) hn x6;exact⟨((((((hb.set 0 (.int .i64 d.self)).set 1 x1).set 2 x2).set 3 x3).set 4 x4).set 5 x5).set 6 x6,(hF.off (zM hB (nlr _))).less,hB⟩
theorem late6{n:Nat}{c0 c1 c2 c3 c4 c5 x1 x2 x3 x4 x5:Value}{a b:Nat}(hb:Box W n [c0,c1,c2,c3,c4,c5] 35)(hF:PcF (Us S a b) w x1 x2 x3 x4 x5 p)(HB:Below w.heap.size w W)(hn:w.heap.size≤n):
  Box ((((((W.setCell ⟨n,0,none⟩ (.bool p.whole)).setCell ⟨n,1,none⟩ (x1)).setCell ⟨n,2,none⟩ (x2)).setCell ⟨n,3,none⟩ (x3)).setCell ⟨n,4,none⟩ (x4)).setCell ⟨n,5,none⟩ (x5)) n [.bool p.whole,x1,x2,x3,x4,x5] 35∧PcF S ((((((W.setCell ⟨n,0,none⟩ (.bool p.whole)).setCell ⟨n,1,none⟩ (x1)).setCell ⟨n,2,none⟩ (x2)).setCell ⟨n,3,none⟩ (x3)).setCell ⟨n,4,none⟩ (x4)).setCell ⟨n,5,none⟩ (x5)) x1 x2 x3 x4 x5 p∧Below w.heap.size w ((((((W.setCell ⟨n,0,none⟩ (.bool p.whole)).setCell ⟨n,1,none⟩ (x1)).setCell ⟨n,2,none⟩ (x2)).setCell ⟨n,3,none⟩ (x3)).setCell ⟨n,4,none⟩ (x4)).setCell ⟨n,5,none⟩ (x5)):=by
 have hB:=(((((HB.setCell (p:=⟨n,0,none⟩) hn (.bool p.whole)).setCell (p:=⟨n,1,none⟩) hn x1).setCell (p:=⟨n,2,none⟩) hn x2).setCell (p:=⟨n,3,none⟩) hn x3).setCell (p:=⟨n,4,none⟩) hn x4).setCell (p:=⟨n,5,none⟩) hn x5;have h:=hF.off (zM hB (nlr _));exact⟨(((((hb.set 0 (.bool p.whole)).set 1 x1).set 2 x2).set 3 x3).set 4 x4).set 5 x5,⟨h.st.less,h.ups.less,h.clk.less⟩,hB⟩
end

set_option maxRecDepth 100000 in
set_option maxHeartbeats 4000000 in
theorem stepPut_ref{S:Nat→Prop}{W:WdS}{g gn gw cn cw:Nat}{gr:Nat→Nat}{v:Value}{d:NdS}(k gp:Nat)(E:Int)(w:World)(h:DwX S w W g gn gw cn cw gr)(hk:k<W.nodes.length)(hv:NdR S w v d)(hp:w.cell? ⟨gp,0,none⟩=some (.pointer (some ⟨g,0,none⟩))):
  Calls Tryz.prog 103 #[.int .i64 k,v,.int .i64 E,.pointer (some ⟨gp,0,none⟩)] w fun e w'=>e=.returned (.int .i64 E)∧DwX S w' (if E=0 then Ow W k d else W) g gn gw cn cw gr∧Off (fun k=>k=gn) w w':=by
 obtain⟨a1,c1,a2,c2,a3,c3,a4,c4,a5,c5,a6,c6,rfl,hF⟩:=hv.form;obtain⟨w0,HW,B0,HB0,-⟩:=xW w [.int .i64 d.self,.slice a1 d.st.clock.length c1,.slice a2 d.st.lives.length c2,.slice a3 d.st.tals.length c3,.slice a4 d.base.length c4,.slice a5 d.log.length c5,.slice a6 d.known.length c6] 31;have H0:=Za (h.below HB0.out);have F0:=Za (hF.off (zM HB0.out (nlr _)));have HO:=Za (zM (S:=fun k=>k=gn) HB0.out (nlr _));have p0:=Yi HB0.out hp;have hn6:=h.few;clear h hv hF hp HB0;have hk':(k:Int)<(W.nodes.length:Int):=by omega
 obtain⟨X,HX⟩:∃X,Hid ((if E=0 then Ow W k d else W)=X):=⟨_,rfl⟩;rw[HX.out]
 go_enter Tryz.func103,Tryz.ntmps103
 go_upto_region 1 with fail
 rw[HW.out]
 by_cases hE:E=0
 rotate_left
 ·have hE':(E==0)=false:=by simp[hE]
  obtain rfl:W=X:=by rw[←HX.out,if_neg hE]
  clear hE
  go_wp2_with fail
  go_ret
  exact⟨rfl,H0.out,HO.out⟩
 subst hE;obtain rfl:Ow W k d=X:=by rw[←HX.out,if_pos rfl]
 have q0:=H0.box.get 0 rfl;obtain⟨b0,b1,b2,b3,b4,b5,b6⟩:=B0.c7;have HK:=Za fun w' (hg:Zh w0 w')=>And.intro (Yi hg p0) (And.intro (Yi hg q0) (And.intro (Yi hg b0) (And.intro (Yi hg b1) (And.intro (Yi hg b2) (And.intro (Yi hg b3) (And.intro (Yi hg b4) (And.intro (Yi hg b5) ((Yi hg b6)))))))))
 go_upto_region 2 with fail
 clear p0 q0 b0 b1 b2 b3 b4 b5 b6;refine bD (fun i=>i==7) (fun _=>True) (Zi _) HK.out fun wd hcd hHeld=>?_;refine yD 0 (.pointer (some ⟨g,0,none⟩)) ?_;refine yD 1 (.pointer (some ⟨g,0,none⟩)) ?_;refine yD 2 (.pointer (some ⟨g,0,none⟩)) ?_;refine yD 3 (.slice (some ⟨gn,0,none⟩) W.nodes.length cn) ?_;refine yD 4 (.int .i64 (k:Int)) ?_;refine yD 5 (.agg #[.int .i64 d.self,.slice a1 d.st.clock.length c1,.slice a2 d.st.lives.length c2,.slice a3 d.st.tals.length c3,.slice a4 d.base.length c4,.slice a5 d.log.length c5,.slice a6 d.known.length c6]) ?_;refine yD 6 (.pointer (some ⟨gn,k*7,none⟩)) ?_;refine oD 7 fun K hK=>?_;have D1:=H0.below hcd;have HP:=D1.putN hk (F0.off (zM hcd (nlr _)));obtain⟨z1,z2,z3,z4,z5,z6,-,⟨z7,z8,z9,z10,z11,z12,z13⟩,fz⟩:=D1.node hk;have f0:=fz (k*7);have f1:=fz (k*7+1);have f2:=fz (k*7+2);have f3:=fz (k*7+3);have f4:=fz (k*7+4);have f5:=fz (k*7+5);have f6:=fz (k*7+6);go_simp;refine kD hK (trivial) ?_;clear hK K;refine eD ?_
 go_wp2_with fail
 go_ret
 exact⟨rfl,HP.1,HO.trans ((zM hcd (nlr _)).trans HP.2)⟩

def OwQ(w:World)(B:Nat)(v:Value)(qs:List (Pcl×Value×Value×Value×Value×Value)):Prop:=w.ownsRow B 35 6 v qs.length (cellsS encQ qs)
section
variable {S:Nat→Prop}{w W:World}{v:Value}{B:Nat}{qs:List (Pcl×Value×Value×Value×Value×Value)}{q:Pcl×Value×Value×Value×Value×Value}
theorem PcG.one(h:PcG S w q):∀x ∈ encQ q,x.oneCell'=true:=by
 obtain⟨b1,e1,b2,e2,b3,e3,b4,e4,b5,e5,e,-⟩:=(PcF.pcl h).form;simp only[Value.agg.injEq,Array.mk.injEq,List.cons.injEq,and_true,true_and]at e;obtain⟨f1,f2,f3,f4,f5⟩:=e;intro x hx;unfold encQ at hx;rw[f1,f2,f3,f4,f5]at hx;simp only[List.mem_cons,List.not_mem_nil,or_false]at hx
 rcases hx with rfl|rfl|rfl|rfl|rfl|rfl <;> rfl
theorem appQ_all{lv:Value}(ho:OwQ w B v [])(hs:Yf 6 encQ w lv qs)(h1:∀q ∈ qs,∀x ∈ encQ q,x.oneCell'=true)(hn:qs.length≤1000)(hB:B≤w.heap.size):
  ∃v' w',(Builtin.append_ #[103,103] 103 #[v,lv]).run Tryz.prog w=.ok v' w'∧OwQ w' B v' qs∧w.grownBy w' v.ownBlock∧Below B w w':=by
 obtain⟨i0,hi,hz0,hz1,hz2⟩:=info_parts Tryz.infoPcl;have hsrc:=hs.srcM (enc:=encQ) (P:=Tryz.prog) (fun _=>rfl) h1 Tryz.underlying103;obtain⟨v',w',hr,h2,h3⟩:=Jh (P:=Tryz.prog) w B 103 103 103 35 i0 _ 6 128 Tryz.underlying103 hi hz0 hz1 hz2 rfl v 0 [] ho lv qs.length _ hsrc (by unfold maxLen;omega) (by omega) hB;rw[Nat.zero_add,List.nil_append]at h2;exact⟨v',w',hr,h2,h3,(Below.refl B w).grown h3 hB fun k e=>(ho.lt k e).1⟩
theorem appQ_one{g:Nat}(ho:OwQ w B v qs)(hb:Box w g (encQ q) 35)(hn:qs.length≤1000)(hB:B≤w.heap.size)(h1:∀x ∈ encQ q,x.oneCell'=true:=by simp[encQ,Value.oneCell']):
  ∃v' w',(Builtin.append_ #[103,103] 103 #[v,.slice (some ⟨g,0,none⟩) 1 1]).run Tryz.prog w=.ok v' w'∧OwQ w' B v' (qs++[q])∧Below B w w':=by
 obtain⟨i0,hi,hz0,hz1,hz2⟩:=info_parts Tryz.infoPcl;have hsrc:=Src.ofSlice (P:=Tryz.prog) w (size:=6) Tryz.underlying103 ⟨g,0,none⟩ 1 1 (encQ q) rfl hb.cellsAt h1;obtain⟨v',w',hr,h2,h3⟩:=Jh (P:=Tryz.prog) w B 103 103 103 35 i0 _ 6 128 Tryz.underlying103 hi hz0 hz1 hz2 rfl v _ _ ho _ 1 _ hsrc (by unfold maxLen;omega) (by omega) hB;refine⟨v',w',hr,?_,(Below.refl B w).grown h3 hB fun k e=>(ho.lt k e).1⟩;unfold OwQ;rw[Vx,List.length_append];exact h2
theorem PwR.snoc{ps:List Pcl}(hq:qs.map (·.1)=ps)(hr:∀q ∈ qs,PcG S w q)(hp:PcF S w q.2.1 q.2.2.1 q.2.2.2.1 q.2.2.2.2.1 q.2.2.2.2.2 q.1)(ho:Off S w W)(h:OwQ W B v (qs++[q]))(hB:∀k,S k→k<B):PwR S W v (ps++[q.1]):=by
 refine⟨qs++[q],by rw[List.map_append,hq];rfl,fun _ h'=>Zl (enc:=encQ) (fun _=>rfl) (Ua h hB h'),fun x hx=>?_⟩
 rcases List.mem_append.1 hx with hx|hx
 ·exact PcF.off (hr x hx) ho
 rw[List.mem_singleton]at hx;rw[hx];exact PcF.off hp ho
end

set_option maxRecDepth 100000 in
set_option maxHeartbeats 40000000 in
theorem step_take{S:Nat→Prop}{W:WdS}{g gn gw cn cw:Nat}{gr:Nat→Nat}{v:Value}{o:DoS}(w:World)(h:DwX S w W g gn gw cn cw gr)(hv:IsDo w v o)(hS:∀k,S k→k<w.heap.size)(k3:o.kind=3):
  Calls Tryz.prog 60 #[.pointer (some ⟨g,0,none⟩),v] w fun e w'=>e=.returned (.int .i64 (Xk W o))∧DwX S w' (stepX W o) g gn gw cn cw gr∧Off (Wt gn gr W.nodes.length) w w':=by
 obtain⟨kd,N,T,ua,us,uk,uy,ui⟩:=o;obtain⟨sv,rfl,hsv⟩:=hv
 simp only at hsv k3 ⊢
 subst k3;obtain⟨a9,c9,rfl,-⟩:=id hsv;obtain⟨w0,HW,P0,D0,HB0,hs0⟩:=lay2 w [.pointer (some ⟨g,0,none⟩)] 102 [.int .i64 3,.int .i64 N,.int .i64 T,.int .i64 ua,.slice a9 us.length c9,.int .i64 uk,.int .i64 uy,.int .i64 ui] 98;have H0:=Za (h.below HB0.out);have U0:=Za (hsv.below HB0.out (nlr _));have HO:=Za (zM (S:=Wt gn gr W.nodes.length) HB0.out (nlr _));have HS:Hid (∀k,S k→k<w0.heap.size):=fun k hk=>by have:=hS k hk;have:=hs0.out;omega
 have HS0:=Za hS;have hn6:=h.few;obtain⟨E,HE⟩:∃E,Hid (Xk W ⟨3,N,T,ua,us,uk,uy,ui⟩=E):=⟨_,rfl⟩;obtain⟨X,HX⟩:∃X,Hid (stepX W ⟨3,N,T,ua,us,uk,uy,ui⟩=X):=⟨_,rfl⟩;rw[HE.out,HX.out];unfold Xk at HE;unfold stepX at HX
 simp only at HE HX
 clear h hsv hS;have p0:=P0.get 0 rfl;have q0:=H0.box.get 0 rfl;obtain⟨d0,d1,d2⟩:=D0.c3
 go_enter Tryz.func60,Tryz.ntmps60
 go_upto_region 1 with fail
 rw[HW.out]
 by_cases hin:isNB W N=true∧isNB W T=true
 rotate_left
 ·have hin':¬(isNB W N=true∧isNB W T=true∧¬N=T):=fun h=>hin ⟨h.1,h.2.1⟩;obtain rfl:6=E:=by rw[←HE.out];simp[twoE,hin]
  obtain rfl:W=X:=by rw[←HX.out];simp only[twoX,if_neg hin'] <;> simp
  have hno:¬((0≤N∧N<W.nodes.length)∧(0≤T∧T<W.nodes.length)):=fun h=>hin ⟨isNB_iff.2 h.1,isNB_iff.2 h.2⟩;have q:(¬(0:Int)≤N)∨((0:Int)≤N∧¬N<(W.nodes.length:Int))∨((0:Int)≤N∧N<(W.nodes.length:Int)∧T<0)∨((0:Int)≤N∧N<(W.nodes.length:Int)∧¬T<0∧(W.nodes.length:Int)≤T):=by omega
  clear hin hin' hno
  rcases q with q|⟨q,q'⟩|⟨q,q',q2⟩|⟨q,q',q2,q3⟩
  all_goals
   go_wp2_with fail
   go_ret
   exact⟨rfl,H0.out,HO.out⟩
 obtain⟨a,rfl,hal⟩:=isNB_nat hin.1;obtain⟨b,rfl,hbl⟩:=isNB_nat hin.2;have HIN:=Za hin;have ha0:(0:Int)≤(a:Int):=by omega
 have ha1:(a:Int)<(W.nodes.length:Int):=by omega
 have hb0:¬(b:Int)<0:=by omega
 have hb1:¬(W.nodes.length:Int)≤(b:Int):=by omega
 have hb2:(b:Int)<(W.nodes.length:Int):=by omega
 clear hin
 by_cases hab:(a:Int)=b
 ·obtain rfl:7=E:=by rw[←HE.out];simp[twoE,HIN.out,hab]
  obtain rfl:W=X:=by rw[←HX.out];simp[twoX,hab]
  have hab':((a:Int)==(b:Int))=true:=by simpa using hab
  clear hab
  all_goals
   go_wp2_with fail
   go_ret
   exact⟨rfl,H0.out,HO.out⟩
 have hab':((a:Int)==(b:Int))=false:=by simpa using hab
 have HAB:=Za hab;clear hab;obtain⟨rs,av,c,hbr,hrs,hp,hlc⟩:=H0.at hal hbl;obtain⟨ps,HPS⟩:∃ps,Hid (Oi W a b=ps):=⟨_,rfl⟩;rw[HPS.out]at hrs hp hlc;have BR:=Za hbr;have HRS:=Za hrs;have HP0:=Za hp;have HLC:=Za hlc;have HNP:Hid (gr a<w.heap.size):=HS0.out _ (H0.sr a hal);have vw:=H0.way a hal;have q1:=H0.box.get 1 rfl;clear hbr hrs hp hlc
 all_goals
  have HK:=Za fun w' (hg:Zh w0 w')=>And.intro (Yi hg p0) (And.intro (Yi hg q1) (And.intro (Yi hg d1) (And.intro (Yi hg d2) ((Yi hg vw)))))
  go_upto_region 20 with fail
  clear p0 q0 q1 d0 d1 d2 vw;refine bD (fun _=>false) (fun _=>True) (Zi _) HK.out fun wd hcd hHeld=>?_;refine yD 0 (.pointer (some ⟨g,0,none⟩)) ?_;refine yD 1 (.pointer (some ⟨g,0,none⟩)) ?_;refine yD 2 (.pointer (some ⟨g,1,none⟩)) ?_;refine yD 3 (.slice (some ⟨gw,0,none⟩) W.nodes.length cw) ?_;refine yD 4 (.pointer (some ⟨w.heap.size+1,1,none⟩)) ?_;refine yD 5 (.int .i64 (a:Int)) ?_;refine yD 6 (.pointer (some ⟨gw,a,none⟩)) ?_;refine yD 7 (.slice (some ⟨gr a,0,none⟩) W.nodes.length W.nodes.length) ?_;refine yD 8 (.pointer (some ⟨w.heap.size+1,2,none⟩)) ?_;refine yD 9 (.int .i64 (b:Int)) ?_;refine yD 10 (.pointer (some ⟨gr a,b,none⟩)) ?_;refine oD 11 fun K hK=>?_;go_simp;have hH_11:=HK.out _ hcd;refine kS hK hH_11 ?_;clear hK K;refine eD ?_;have HB1:=Za hcd;obtain⟨w1,rfl⟩:∃w1,w1=wd:=⟨wd,rfl⟩;clear hcd hHeld HK;have HP1:=Za (HP0.off (zM HB1.out (nlr _)));have HO1:=Za (HO.trans (zM HB1.out (nlr _)));have d0:=(D0.below HB1.out (nlr _)).get 0 rfl
 have HE2:Hid (wdelE W a b=E):=by unfold Hid;rw[←HE.out];(try simp only[Int.reduceEq,reduceIte]);unfold twoE;rw[if_pos HIN.out,if_neg HAB.out]
 have HX2:Hid (wdelX W a b=X):=by unfold Hid;rw[←HX.out];(try simp only[Int.reduceEq,reduceIte]);unfold twoX;rw[if_pos ⟨HIN.1,HIN.2,HAB.out⟩]
 have cr:=(BR.below HB1.out (nlr _)).get b HRS.out;have fr:=(BR.below HB1.out (nlr _)).free b
 rcases ps with _|⟨p,r⟩
 ·obtain rfl:6=E:=by rw[←HE2.out];unfold wdelE;simp[nextE,HPS.out]
  obtain rfl:W=X:=by rw[←HX2.out];unfold wdelX;simp[nextE,HPS.out]
  simp only[List.length_nil]at cr
  go_wp2_with fail
  go_ret
  exact⟨rfl,H0.below HB1.out,HO1.out⟩
 have HNX:Hid (zN W a b=Qy W a b r):=by unfold Hid zN;rw[HPS.out];rfl
 obtain⟨pb,po,x1,x2,x3,x4,x5,rfl,hPC,⟨s0,s1,s2,s3,s4,s5⟩,hPR⟩:=HP1.head;obtain⟨b1,e1,b2,e2,b3,e3,b4,e4,b5,e5,e,-⟩:=hPC.pcl.form;simp only[Value.agg.injEq,Array.mk.injEq,List.cons.injEq,and_true,true_and]at e;obtain⟨rfl,rfl,rfl,rfl,rfl⟩:=e;obtain⟨c,rfl⟩:∃m,c=m+1:=⟨c - 1,by have:=HLC.1;simp at this;omega⟩;have HRC:Hid (r.length≤c):=by unfold Hid;have:=HLC.1;simp at this;omega
 rw[Nat.add_sub_cancel]at hPR;simp only[List.length_cons]at cr;obtain⟨w2,HW2,Q2,HB2,hs2⟩:=xW w1 [.bool p.whole,.slice b1 p.st.clock.length e1,.slice b2 p.st.lives.length e2,.slice b3 p.st.tals.length e3,.slice b4 p.ups.length e4,.slice b5 p.clock.length e5] 35;have HPR:=Za (hPR.off (zM HB2.out (nlr _)));have HPC:=Za (hPC.off (zM HB2.out (nlr _)));have D2:=Za ((H0.below HB1.out).below HB2.out);have HB3:=Za (Zb HB1.out HB2.out);have HLW:=Za (BR.below HB1.out (nlr _)).lt;clear hPC hPR
 go_upto_region 31 with fail
 rw[HW2.out];clear s0 s1 s2 s3 s4 s5 cr fr;have cr:=(BR.below HB3.out (nlr _)).get b HRS.out;have fr:=(BR.below HB3.out (nlr _)).free b;simp only[List.length_cons]at cr
 go_cut [] (fun wx=>Hid (DwX S wx (Qy W a b r) g gn gw cn cw gr)∧Hid (Off (fun k=>k=gr a) w2 wx))
 case first=>
  by_cases hc:c=0
  ·subst hc;obtain rfl:r=[]:=List.eq_nil_of_length_eq_zero (by have:=HRC.out;omega);simp only[List.length_nil,Nat.zero_add]at cr;have hZ:=D2.putW hal hbl (PwR.nil (S:=S) (w:=w2) (some ⟨pb,po,none⟩))
   go_wp2_with fail
   go_meet
   exact⟨Za hZ.1,Za hZ.2⟩
  have hc1:¬c+1=1:=by omega
  have hZ:=D2.putW hal hbl HPR.out
  go_wp2_with fail
  go_meet
  exact⟨Za hZ.1,Za hZ.2⟩
 obtain⟨D3,HOG⟩:=hcut;obtain⟨w3,rfl⟩:∃w3,w3=wc:=⟨wc,rfl⟩;have HO3:=Za (HOG.sub (S':=S) fun k hk=>by rw[hk];exact H0.sr a hal);have HO4:=Za (HO1.trans ((zM HB2.out (nlr _)).trans (HOG.sub fun k hk=>.inr ⟨a,hal,hk⟩)));clear cr fr;have P3:=Za ((P0.below HB3.out (nlr _)).off HOG.out (by have:=HNP.out;omega));have K3:=Za ((D0.below HB3.out (nlr _)).off HOG.out (by have:=HNP.out;omega));have d0:=K3.get 0 rfl;obtain⟨d,HD⟩:∃d,Hid (Xa W b=d):=⟨_,rfl⟩;obtain⟨E9,HE9⟩:∃E,Hid (Un d a p=E):=⟨_,rfl⟩;obtain⟨X9,HX9⟩:∃X,Hid (takeX d a p=X):=⟨_,rfl⟩;have hn0:nextE W a b=0:=by unfold nextE;rw[HPS.out];rfl
 have hnp:nextP W a b=p:=by unfold nextP;rw[HPS.out];rfl
 obtain rfl:E9=E:=by rw[←HE2.out];unfold wdelE;rw[if_pos hn0,HD.out,hnp,HE9.out]
 have HXX:Hid ((if E9=0 then Ow (Qy W a b r) b X9 else Qy W a b r)=X):=by
  unfold Hid;rw[←HX2.out];unfold wdelX yI;rw[if_pos hn0,HNX.out,HD.out,hnp,HE9.out,HX9.out];have hi:isNB (Qy W a b r) b=true:=HIN.2
  by_cases e:E9=0 <;> simp[e,hi]
 clear hn0 hnp;obtain⟨y1,y2,y3,y4,y5,y6,hF,⟨n0,n1,n2,n3,n4,n5,n6⟩,-⟩:=D3.node (i:=b) hbl;rw[show Xa (Qy W a b r) b=Xa W b from rfl,HD.out]at hF n0;have F3:=Za hF;have Q3:=Za (HPC.off HO3.out);have HS3:Hid (∀k,S k→k<w3.heap.size):=fun k hk=>Nat.lt_of_lt_of_le (HS.out k hk) (Nat.le_trans HB3.size HO3.size);obtain⟨s0,s1,s2,s3,s4,s5⟩:=(Q2.off HOG.out (by have:=HLW.out;omega)).c6;have p0:=P3.get 0 rfl;have q0:w3.cell? ⟨g,0,none⟩=some (.slice (some ⟨gn,0,none⟩) W.nodes.length cn):=D3.box.get 0 rfl;have d1:=K3.get 1 rfl;have d2:=K3.get 2 rfl;have HK:=Za fun w' (hg:Zh w3 w')=>And.intro (Yi hg p0) (And.intro (Yi hg q0) (And.intro (Yi hg d1) (And.intro (Yi hg d2) (And.intro (Yi hg n0) (And.intro (Yi hg n1) (And.intro (Yi hg n2) (And.intro (Yi hg n3) (And.intro (Yi hg n4) (And.intro (Yi hg n5) (And.intro (Yi hg n6) (And.intro (Yi hg s0) (And.intro (Yi hg s1) (And.intro (Yi hg s2) (And.intro (Yi hg s3) (And.intro (Yi hg s4) ((Yi hg s5)))))))))))))))));clear hF
 go_upto_region 34 with fail
 clear p0 q0 d0 d1 d2 n0 n1 n2 n3 n4 n5 n6 s0 s1 s2 s3 s4 s5
 go_cut [14,15] (fun s1 s2 wx=>∃g8 a1 c1 a2 c2 a3 c3 a4 c4 a5 c5 a6 c6,s1=.pointer (some ⟨g8,0,none⟩)∧s2=.int .i64 E9∧Hid (Box wx g8 [.int .i64 X9.self,.slice a1 X9.st.clock.length c1,.slice a2 X9.st.lives.length c2,.slice a3 X9.st.tals.length c3,.slice a4 X9.base.length c4,.slice a5 X9.log.length c5,.slice a6 X9.known.length c6] 31)∧Hid (NdF S wx (.slice a1 X9.st.clock.length c1) (.slice a2 X9.st.lives.length c2) (.slice a3 X9.st.tals.length c3) (.slice a4 X9.base.length c4) (.slice a5 X9.log.length c5) (.slice a6 X9.known.length c6) X9)∧Hid (Below w3.heap.size w3 wx)∧w3.heap.size≤g8)
 case first=>
  refine bD (fun _=>false) (fun _=>True) (Zi _) HK.out fun wd hcd hHeld=>?_;refine yD 0 (.pointer (some ⟨g,0,none⟩)) ?_;refine yD 1 (.pointer (some ⟨g,0,none⟩)) ?_;refine yD 2 (.pointer (some ⟨g,0,none⟩)) ?_;refine yD 3 (.slice (some ⟨gn,0,none⟩) W.nodes.length cn) ?_;refine yD 4 (.pointer (some ⟨w.heap.size+1,2,none⟩)) ?_;refine yD 5 (.int .i64 (b:Int)) ?_;refine yD 6 (.pointer (some ⟨gn,b*7,none⟩)) ?_;refine yD 7 (.agg #[.int .i64 d.self,y1,y2,y3,y4,y5,y6]) ?_;refine yD 8 (.pointer (some ⟨w.heap.size+1,1,none⟩)) ?_;refine yD 9 (.int .i64 (a:Int)) ?_;refine yD 10 (.agg #[.bool p.whole,.slice b1 p.st.clock.length e1,.slice b2 p.st.lives.length e2,.slice b3 p.st.tals.length e3,.slice b4 p.ups.length e4,.slice b5 p.clock.length e5]) ?_;refine aD [11,15] (cD (fun K hK=>?_) (cD (fun K hK=>?_) nD))
  ·skip
   go_simp;refine(take_ref (S:=Us S w3.heap.size wd.heap.size) (p:=p) (a:Int) _ ⟨_,_,_,_,_,_,rfl,F3.more hcd⟩ ⟨_,_,_,_,_,rfl,PcF.more Q3.out hcd⟩ (mine_lt HS3.out (nlr _) hcd.size)).mono ?_;rintro e w_11 ⟨rv,rfl,hv8,hb_11⟩;rw[HE9.out];rw[HX9.out]at hv8;obtain⟨a1,c1,a2,c2,a3,c3,a4,c4,a5,c5,a6,c6,rfl,hF8⟩:=hv8.form;go_simp;have hg_11:Zh w3 w_11:=Zd hcd hb_11;have hH_11:=HK.out _ hg_11;refine kS hK hH_11 ?_;clear hK K;refine yD 12 (.tuple #[.agg #[.int .i64 X9.self,.slice a1 X9.st.clock.length c1,.slice a2 X9.st.lives.length c2,.slice a3 X9.st.tals.length c3,.slice a4 X9.base.length c4,.slice a5 X9.log.length c5,.slice a6 X9.known.length c6],.int .i64 E9]) ?_;refine yD 13 (.agg #[.int .i64 X9.self,.slice a1 X9.st.clock.length c1,.slice a2 X9.st.lives.length c2,.slice a3 X9.st.tals.length c3,.slice a4 X9.base.length c4,.slice a5 X9.log.length c5,.slice a6 X9.known.length c6]) ?_;refine yD 14 (.int .i64 E9) ?_;refine oD 15 fun K hK=>?_;go_simp;obtain⟨w_a,HWw_a,b8_11_15',hb_a,hs_a⟩:=xW w_11 [.int .i64 0,.slice none 0 0,.slice none 0 0,.slice none 0 0,.slice none 0 0,.slice none 0 0,.slice none 0 0] 31;rw[HWw_a.out];have b8_a:=b8_11_15'.out;have hg_a:Zh w3 w_a:=Zd hg_11 hb_a.out;have hH_a:=HK.out _ hg_a;refine kS hK hH_a ?_;clear hK K;refine oD 16 fun K hK=>?_;have hRV:=late7 b8_a hF8 hb_a.out (nlr _);obtain⟨r0,e0,r1,e1,r2,e2,r3,e3,r4,e4,r5,e5,r6,e6⟩:=b8_a.seven;go_simp;obtain⟨w_c,HWS⟩:∃W,Hid ((((((((w_a.setCell ⟨w_11.heap.size,0,none⟩ (.int .i64 X9.self)).setCell ⟨w_11.heap.size,1,none⟩ (.slice a1 X9.st.clock.length c1)).setCell ⟨w_11.heap.size,2,none⟩ (.slice a2 X9.st.lives.length c2)).setCell ⟨w_11.heap.size,3,none⟩ (.slice a3 X9.st.tals.length c3)).setCell ⟨w_11.heap.size,4,none⟩ (.slice a4 X9.base.length c4)).setCell ⟨w_11.heap.size,5,none⟩ (.slice a5 X9.log.length c5)).setCell ⟨w_11.heap.size,6,none⟩ (.slice a6 X9.known.length c6))=W):=⟨_,rfl⟩;rw[HWS.out]at hRV ⊢;have hg_c:Zh w3 w_c:=Zd hg_11 hRV.2.2;have hH_c:=HK.out _ hg_c;refine kS hK hH_c ?_;clear hK K;refine oD 17 fun K hK=>?_;go_simp;have hH_e:=hH_c;refine kS hK hH_e ?_;clear hK K;refine eD ?_
   go_wp2_with fail
   go_meet
   exact⟨_,_,_,_,_,_,_,_,_,_,_,_,_,rfl,rfl,Za hRV.1,Za hRV.2.1,Za hg_c,hg_11.size⟩
  skip
  go_simp;obtain⟨w_15,HWw_15,b8_15',hb_15,hs_15⟩:=xW wd [.int .i64 0,.slice none 0 0,.slice none 0 0,.slice none 0 0,.slice none 0 0,.slice none 0 0,.slice none 0 0] 31;rw[HWw_15.out];have b8_15:=b8_15'.out;have hg_15:Zh w3 w_15:=Zd hcd hb_15.out;have hH_15:=HK.out _ hg_15;refine kS hK hH_15 ?_;clear hK K;refine oD 11 fun K hK=>?_;go_simp;refine(take_ref (S:=Us S w3.heap.size w_15.heap.size) (p:=p) (a:Int) _ ⟨_,_,_,_,_,_,rfl,F3.more hg_15⟩ ⟨_,_,_,_,_,rfl,PcF.more Q3.out hg_15⟩ (mine_lt HS3.out (nlr _) hg_15.size)).mono ?_;rintro e w_b ⟨rv,rfl,hv8,hb_b⟩;rw[HE9.out];rw[HX9.out]at hv8;obtain⟨a1,c1,a2,c2,a3,c3,a4,c4,a5,c5,a6,c6,rfl,hF8⟩:=hv8.form;go_simp;have hg_b:Zh w3 w_b:=Zd hg_15 hb_b;have b8_b:=b8_15.below hb_b (nlr _);have hH_b:=HK.out _ hg_b;refine kS hK hH_b ?_;clear hK K;refine yD 12 (.tuple #[.agg #[.int .i64 X9.self,.slice a1 X9.st.clock.length c1,.slice a2 X9.st.lives.length c2,.slice a3 X9.st.tals.length c3,.slice a4 X9.base.length c4,.slice a5 X9.log.length c5,.slice a6 X9.known.length c6],.int .i64 E9]) ?_;refine yD 13 (.agg #[.int .i64 X9.self,.slice a1 X9.st.clock.length c1,.slice a2 X9.st.lives.length c2,.slice a3 X9.st.tals.length c3,.slice a4 X9.base.length c4,.slice a5 X9.log.length c5,.slice a6 X9.known.length c6]) ?_;refine yD 14 (.int .i64 E9) ?_;refine oD 16 fun K hK=>?_;have hRV:=yN (S:=S) b8_b hF8 hg_b hcd.size (by have:=hs_15.out;omega);obtain⟨r0,e0,r1,e1,r2,e2,r3,e3,r4,e4,r5,e5,r6,e6⟩:=b8_b.seven;go_simp;obtain⟨w_d,HWS⟩:∃W,Hid ((((((((w_b.setCell ⟨wd.heap.size,0,none⟩ (.int .i64 X9.self)).setCell ⟨wd.heap.size,1,none⟩ (.slice a1 X9.st.clock.length c1)).setCell ⟨wd.heap.size,2,none⟩ (.slice a2 X9.st.lives.length c2)).setCell ⟨wd.heap.size,3,none⟩ (.slice a3 X9.st.tals.length c3)).setCell ⟨wd.heap.size,4,none⟩ (.slice a4 X9.base.length c4)).setCell ⟨wd.heap.size,5,none⟩ (.slice a5 X9.log.length c5)).setCell ⟨wd.heap.size,6,none⟩ (.slice a6 X9.known.length c6))=W):=⟨_,rfl⟩;rw[HWS.out]at hRV ⊢;have hg_d:Zh w3 w_d:=hRV.2.2;have hH_d:=HK.out _ hg_d;refine kS hK hH_d ?_;clear hK K;refine oD 17 fun K hK=>?_;go_simp;have hH_f:=hH_d;refine kS hK hH_f ?_;clear hK K;refine eD ?_
  go_wp2_with fail
  go_meet
  exact⟨_,_,_,_,_,_,_,_,_,_,_,_,_,rfl,rfl,Za hRV.1,Za hRV.2.1,Za hg_d,hcd.size⟩
 obtain⟨g8,a1,c1,a2,c2,a3,c3,a4,c4,a5,c5,a6,c6,rfl,rfl,B4,F4,HB4,hge⟩:=hcut;obtain⟨w4,rfl⟩:∃w4,w4=wc:=⟨wc,rfl⟩;clear HK;obtain⟨r0,r1,r2,r3,r4,r5,r6⟩:=B4.c7;have p0:=(P3.below HB4.out (nlr _)).get 0 rfl;have d2:=(K3.below HB4.out (nlr _)).get 2 rfl
 go_wp2_with fail
 refine(stepPut_ref (d:=X9) b w.heap.size E9 _ (D3.below HB4.out) hbl ⟨_,_,_,_,_,_,rfl,F4.out⟩ p0).mono ?_;rintro e wz ⟨rfl,hz,ho⟩;clear r0 r1 r2 r3 r4 r5 r6 p0 d2
 go_wp2_with fail
 go_ret
 exact⟨rfl,by rw[←HXX.out];exact hz,(HO4.trans (zM HB4.out (nlr _))).trans (ho.sub fun k hk=>.inl hk)⟩
end Go.Proofs.YtfhecilhcofboaaGreat
