/- The document's own PlayWorld. -/
import Derived.Test.YtfhecilhcofboaaGreatNwS
namespace Go.Proofs.YtfhecilhcofboaaGreat
open Go.RowKit

def Bk(r g:Nat)(v1 v2:Value)(gr:Nat→Nat)(m:Nat):Nat→Prop:=fun j=>j=r∨j=g∨v1.ownBlock=some j∨v2.ownBlock=some j∨∃a,a<m∧j=gr a
structure BgX (w:World) (B r g n m:Nat) (v1 v2:Value) (qs:List (NdS×Value×Value×Value×Value×Value×Value)) (gr:Nat→Nat):Prop where
 rb:r<B
 bg:B≤g
 box:Box w g [v1,v2] 52
 o1:w.ownsRow B 31 7 v1 qs.length (cellsS encN qs)
 nd:∀q ∈ qs,NdG (Bk r g v1 v2 gr m) w q
 o2:w.ownsRow B 100 1 v2 m ((List.range m).map fun a=>Value.slice (some ⟨gr a,0,none⟩) n n)
 rows:∀a,a<m→B≤gr a∧Box w (gr a) (List.replicate n (Value.slice none 0 0)) 103
 inj:∀a b,a<m→b<m→gr a=gr b→a=b
section
variable {S:Nat→Prop}{w w' W:World}{B C r g n m:Nat}{v v1 v2 v':Value}{qs:List (NdS×Value×Value×Value×Value×Value×Value)}{q:NdS×Value×Value×Value×Value×Value×Value}{gr:Nat→Nat}{e:TypeId}{sz k:Nat}{xs:List Value}
theorem keepsR(h:w.ownsRow B e sz v k xs)(hg:w.grownBy w' v.ownBlock):Keeps [e] w w':=by
 rcases h.2 with⟨rfl,-⟩|⟨g,cap,cur,rfl,-,hc,-⟩
 ·exact keeps_grown0 hg
 exact keeps_grown hc hg
theorem BgX.lt(h:BgX w B r g n m v1 v2 qs gr):∀k,Bk r g v1 v2 gr m k→k<w.heap.size:=fun k hk=>by
 rcases hk with rfl|rfl|hk|hk|⟨a,ha,rfl⟩
 ·have:=h.rb;have:=h.bg;have:=h.box.lt;omega
 ·exact h.box.lt
 ·exact(h.o1.lt k hk).2
 ·exact(h.o2.lt k hk).2
 exact(h.rows a ha).2.lt
theorem BgX.below(h:BgX w B r g n m v1 v2 qs gr)(hb:Below w.heap.size w w'):BgX w' B r g n m v1 v2 qs gr:=
 ⟨h.rb,h.bg,h.box.below hb (nlr _),Zp h.o1 hb (nlr _),fun q hq=>NdF.off (h.nd q hq) (zM hb (nlr _)),Zp h.o2 hb (nlr _),fun a ha=>⟨(h.rows a ha).1,(h.rows a ha).2.below hb (nlr _)⟩,h.inj⟩
theorem Off.ofGrown(hg:w.grownBy w' v.ownBlock)(hv:∀k,v.ownBlock=some k→S k):Off S w w':=⟨hg.os,hg.tape,hg.output,hg.size,fun k hk hn=>hg.block k hk fun e=>hn (hv k e.symm)⟩
theorem BgX.addN(h:BgX w B r g n m v1 v2 qs gr)(hq:NdG (Bk r g v1 v2 gr m) w q)(ho:w'.ownsRow B 31 7 v' (qs.length+1) (cellsS encN qs++encN q))(hgr:w.grownBy w' v1.ownBlock)(hat:v'.ownBlock=v1.ownBlock∨v'.ownBlock=some w.heap.size):
  BgX (w'.setCell ⟨g,0,none⟩ v') B r g n m v' v2 (qs++[q]) gr∧(∀w0,Below B w0 w→B≤w.heap.size→Below B w0 (w'.setCell ⟨g,0,none⟩ v')):=by
 have hk1:=keepsR h.o1 hgr;have b1:=hk1.box h.box (by decide);have hk2:=Yt b1 0 v';have og:Off (Bk r g v1 v2 gr m) w (w'.setCell ⟨g,0,none⟩ v'):=(Off.ofGrown hgr fun k hk=>.inr (.inr (.inl hk))).set (.inr (.inl rfl)) 0 v';refine⟨⟨h.rb,h.bg,b1.set 0 v',?_,fun x hx=>?_,hk2.row (hk1.row h.o2 (by decide)) (by decide),fun a ha=>⟨(h.rows a ha).1,hk2.box (hk1.box (h.rows a ha).2 (by decide)) (by decide)⟩,h.inj⟩,fun w0 h0 hB=>(h0.grown hgr hB fun k e=>(h.o1.lt k e).1).setCell (p:=⟨g,0,none⟩) h.bg v'⟩
 ·rw[List.length_append,Vx];exact hk2.row ho (by decide)
 have hx':NdG (Bk r g v1 v2 gr m) w x:=by
  rcases List.mem_append.1 hx with hx|hx
  ·exact h.nd x hx
  rw[List.mem_singleton]at hx;rw[hx];exact hq
 refine NdF.turn hx' og fun k hk hS=>?_
 rcases hS with hS|hS|hS|hS
 ·exact .inl hS
 ·exact .inr (.inl hS)
 ·rcases hat with e|e
  ·exact .inr (.inr (.inl (e ▸ hS)))
  rw[e,Option.some.injEq]at hS;omega
 exact .inr (.inr (.inr hS))
theorem BgX.addR{g3:Nat}(h:BgX w B r g n m v1 v2 qs gr)(hb:Below w.heap.size w W)(h3:Box W g3 (List.replicate n (Value.slice none 0 0)) 103)(h3n:w.heap.size≤g3)(hB:B≤w.heap.size)
  (ho:w'.ownsRow B 100 1 v' (m+1) (((List.range m).map fun a=>Value.slice (some ⟨gr a,0,none⟩) n n)++[Value.slice (some ⟨g3,0,none⟩) n n])) (hgr:W.grownBy w' v2.ownBlock) (hat:v'.ownBlock=v2.ownBlock∨v'.ownBlock=some W.heap.size):
  BgX (w'.setCell ⟨g,1,none⟩ v') B r g n (m+1) v1 v' qs (fun a=>if a=m then g3 else gr a)∧(∀w0,Below B w0 W→Below B w0 (w'.setCell ⟨g,1,none⟩ v')):=by
 have hW:=h.below hb;have hk1:=keepsR hW.o2 hgr;have b1:=hk1.box hW.box (by decide);have hk2:=Yt b1 1 v';have og:Off (Bk r g v1 v2 gr m) w (w'.setCell ⟨g,1,none⟩ v'):=(((zM hb (nlr _)).trans (Off.ofGrown hgr fun k hk=>.inr (.inr (.inr (.inl hk)))))).set (.inr (.inl rfl)) 1 v';have hne:∀a,a<m→gr a≠g3:=fun a ha e=>by have:=(h.rows a ha).2.lt;omega
 have hz:(List.range (m+1)).map (fun a=>Value.slice (some ⟨if a=m then g3 else gr a,0,none⟩) n n)=((List.range m).map fun a=>Value.slice (some ⟨gr a,0,none⟩) n n)++[Value.slice (some ⟨g3,0,none⟩) n n]:=by
  rw[List.range_succ,List.map_append,List.map_cons,List.map_nil,if_pos rfl]
  congr 1
  refine List.map_congr_left fun a ha=>?_;rw[if_neg (by have:=List.mem_range.1 ha;omega)]
 refine⟨⟨h.rb,h.bg,b1.set 1 v',hk2.row (hk1.row hW.o1 (by decide)) (by decide),fun x hx=>NdF.turn (h.nd x hx) og fun k hk hS=>?_,?_,fun a ha=>?_,fun a b ha hb' he=>?_⟩,fun w0 h0=>(h0.grown hgr (Nat.le_trans hB hb.size) fun k e=>(hW.o2.lt k e).1).setCell (p:=⟨g,1,none⟩) h.bg v'⟩
 ·rcases hS with hS|hS|hS|hS|⟨a,ha,hS⟩
  ·exact .inl hS
  ·exact .inr (.inl hS)
  ·exact .inr (.inr (.inl hS))
  ·rcases hat with e|e
   ·exact .inr (.inr (.inr (.inl (e ▸ hS))))
   rw[e,Option.some.injEq]at hS;have:=hb.size;omega
  simp only at hS
  by_cases e:a=m
  ·rw[if_pos e]at hS;omega
  rw[if_neg e]at hS;exact .inr (.inr (.inr (.inr ⟨a,by omega,hS⟩)))
 ·rw[hz];exact hk2.row ho (by decide)
 ·show B≤(if a=m then g3 else gr a)∧Box _ (if a=m then g3 else gr a) _ _
  by_cases e:a=m
  ·rw[if_pos e];exact⟨by omega,hk2.box (hk1.box h3 (by decide)) (by decide)⟩
  rw[if_neg e];exact⟨(h.rows a (by omega)).1,hk2.box (hk1.box (hW.rows a (by omega)).2 (by decide)) (by decide)⟩
 by_cases e:a=m
 ·by_cases e':b=m
  ·omega
  rw[if_pos e,if_neg e']at he;exact absurd he.symm (hne b (by omega))
 by_cases e':b=m
 ·rw[if_neg e,if_pos e']at he;exact absurd he (hne a (by omega))
 rw[if_neg e,if_neg e']at he;exact h.inj a b (by omega) (by omega) he
def Sw(r gn:Nat)(gr:Nat→Nat)(n:Nat):Nat→Prop:=fun j=>j=r∨Wt gn gr n j
theorem BgX.done(h:BgX w B r g n n v1 v2 qs gr)(hq:qs.map (·.1)=(List.range n).map fun(i:Nat)=>Uu i n)(h1:1≤n)(h6:n≤6):
  ∃gn gw cn cw,v1=.slice (some ⟨gn,0,none⟩) n cn∧v2=.slice (some ⟨gw,0,none⟩) n cw∧DwX (Sw r gn gr n) w (Uy n) g gn gw cn cw gr∧∀k,Wt gn gr n k→B≤k∧k<w.heap.size:=by
 have hql:qs.length=n:=by have:=congrArg List.length hq;rw[List.length_map,List.length_map,List.length_range]at this;exact this
 have hl:=begin_len n
 rcases Qj h.o1 with⟨-,rfl⟩|⟨gn,cn,rfl,hgn,hh,hc,-⟩
 ·simp at hql;omega
 rcases h.o2.2 with⟨-,h0⟩|⟨gw,cw,cur,rfl,hgw,hw1,hw2,hw3,hw4,hw5⟩
 ·omega
 have hnb:g≠gn:=fun e=>by
  obtain⟨c,e1,-⟩:=hh;rw[←e]at e1;have:=h.box.symm.trans e1
  simp at this
 have hgb:∀a,a<n→g≠gr a:=fun a ha e=>by
  have e1:=(h.rows a ha).2;rw[←e]at e1;have:=h.box.symm.trans e1
  simp at this
 have hnw:gw≠gn:=fun e=>by
  obtain⟨c,e1,-⟩:=hh;rw[←e]at e1;have:=hw1.symm.trans e1
  simp at this
 have hgw':∀a,a<n→gw≠gr a:=fun a ha e=>by
  have e1:=(h.rows a ha).2;rw[←e]at e1;have:=hw1.symm.trans e1
  simp at this
 refine⟨gn,gw,cn,cw,by rw[hql],rfl,⟨by rw[hl];exact h6,by unfold Uy;simp,fun a ha=>?_,by rw[hl];rw[←hql];exact hql ▸ h.box,by rw[hl];omega,⟨qs,hq,hh,fun q hm=>NdF.turn (h.nd q hm) (Off.refl _ w) fun k _ hS=>?_⟩,fun a ha=>?_,fun a ha=>?_,fun a b ha hb=>?_,.inr (.inl rfl),fun a ha=>.inr (.inr ⟨a,by rw[hl]at ha;exact ha,rfl⟩),fun hS=>?_,fun hS=>?_⟩,fun k hS=>?_⟩
 ·rw[hl]at ha ⊢;unfold Uy
  simp only
  rw[List.getD_eq_getElem?_getD,List.getElem?_replicate,if_pos ha]
  simp
 ·rcases hS with hS|rfl|hS
  ·exact .inl hS
  ·exact .inr (.inr (.inl rfl))
  exact .inr (.inr (.inr (.inr hS)))
 ·rw[hl]at ha ⊢
  have:cur.toList[a]? =some (Value.slice (some ⟨gr a,0,none⟩) n n):=by
   have e:=congrArg (fun l=>l[a]?) hw5;rw[List.getElem?_take_of_lt (by omega),List.getElem?_map,List.getElem?_range ha]at e;exact e
  simp only[World.cell?,hw1]
  simpa using this
 ·rw[hl]at ha ⊢;refine⟨_,(h.rows a ha).2,by simp,fun b hb=>?_⟩;rw[show((Uy n).way.getD a []).getD b []=[] from begin_way,List.getD_eq_getElem?_getD,List.getElem?_replicate,if_pos hb];exact PwR.nil none
 ·rw[hl]at ha hb;exact h.inj a b ha hb
 ·rcases hS with hS|hS|⟨a,ha,hS⟩
  ·have:=h.rb;have:=h.bg;omega
  ·exact hnb hS
  exact hgb a ha hS
 ·rcases hS with hS|hS|⟨a,ha,hS⟩
  ·have:=h.rb;omega
  ·exact hnw hS
  exact hgw' a ha hS
 rcases hS with rfl|⟨a,ha,rfl⟩
 ·exact⟨hgn,hh.lt⟩
 exact⟨(h.rows a ha).1,(h.rows a ha).2.lt⟩
theorem Off.under(ho:Off S w w')(hb:Below B W w)(hS:∀k,S k→B≤k)(hB:B≤W.heap.size):Below B W w':=⟨ho.os.trans hb.os,ho.tape.trans hb.tape,ho.output.trans hb.output,Nat.le_trans hb.size ho.size,fun k hk=>(ho.block k (by have:=hb.size;omega) fun h=>by have:=hS k h;omega).trans (hb.block k hk)⟩
theorem DwX.turn{S' D:Nat→Prop}{W:WdS}{gn gw cn cw:Nat}(h:DwX S w W g gn gw cn cw gr)(ho:Off D w w')(hD:∀k,D k→S k)(h1:¬D gn)(h2:∀a,a<W.nodes.length→¬D (gr a))(h3:¬D g)(h4:¬D gw)(hs:∀k,k<w.heap.size→S' k→S k)(k1:S' gn)(k2:∀a,a<W.nodes.length→S' (gr a))(k3:¬S' g)(k4:¬S' gw):DwX S' w' W g gn gw cn cw gr:=by
 have hs':Off S w w':=ho.sub hD;refine⟨h.few,h.wl,h.wr,h.box.off ho h3,h.nc,?_,fun a ha=>?_,fun a ha=>?_,h.inj,k1,k2,k3,k4⟩
 ·obtain⟨qs,e1,⟨cur,e2,e3⟩,e4⟩:=h.nodes;exact⟨qs,e1,⟨cur,(ho.block gn (lt_of_block e2) h1).trans e2,e3⟩,fun q hq=>NdF.turn (e4 q hq) hs' hs⟩
 ·have hc:=h.way a ha;have hlt:=World.block_lt_of_cell? w _ hc;unfold World.cell? at hc ⊢;rw[ho.block gw hlt h4];exact hc
 obtain⟨rs,e1,e2,e3⟩:=h.rows a ha;exact⟨rs,e1.off ho (h2 a ha),e2,fun b hb=>(e3 b hb).turn hs' hs⟩
def So(r gn:Nat)(gr:Nat→Nat)(n:Nat)(v:Value):Nat→Prop:=fun j=>Sw r gn gr n j∨v.ownBlock=some j
end
def DwV(w:World)(v:Value)(W:WdS):Prop:=(∃S g gn gw cn cw gr,v=.agg #[.slice (some ⟨gn,0,none⟩) W.nodes.length cn,.slice (some ⟨gw,0,none⟩) W.nodes.length cw]∧DwX S w W g gn gw cn cw gr)∨(v=.agg #[.slice none 0 0,.slice none 0 0]∧W=⟨[],[]⟩)

theorem own_form{w:World}{B:Nat}{e:TypeId}{sz n:Nat}{v:Value}{xs:List Value}(h:w.ownsRow B e sz v n xs):∃a c,v=.slice a n c:=by
 rcases h.2 with⟨rfl,h0⟩|⟨g,cap,cur,rfl,-⟩
 ·exact⟨none,0,by rw[h0]⟩
 exact⟨_,_,rfl⟩
theorem DoV.do_at{w:World}{a:Option Addr}{m c:Nat}{l:List DoS}(h:DoV w (.slice a m c) l){i:Nat}{o:DoS}(ho:l[i]? =some o):
  ∃b off sa sc,a=some ⟨b,off,none⟩∧Row w (.slice sa o.upd.seen.length sc) o.upd.seen∧w.cell? ⟨b,off+i*8,none⟩=some (.int .i64 o.kind)∧w.cell? ⟨b,off+i*8+1,none⟩=some (.int .i64 o.n)∧w.cell? ⟨b,off+i*8+2,none⟩=some (.int .i64 o.dst)∧w.cell? ⟨b,off+i*8+3,none⟩=some (.int .i64 o.upd.author)∧w.cell? ⟨b,off+i*8+4,none⟩=some (.slice sa o.upd.seen.length sc)∧w.cell? ⟨b,off+i*8+5,none⟩=some (.int .i64 o.upd.kind)∧w.cell? ⟨b,off+i*8+6,none⟩=some (.int .i64 o.upd.key)∧w.cell? ⟨b,off+i*8+7,none⟩=some (.int .i64 o.upd.item):=by
 obtain⟨a',c',e,-,-,h4⟩:=h;simp only[Value.slice.injEq]at e;obtain⟨rfl,-,rfl⟩:=e;obtain⟨b,off,e,sv,hr,d⟩:=h4 i o ho;obtain⟨sa,sc,rfl,-⟩:=id hr;exact⟨b,off,sa,sc,e,hr,d⟩

set_option maxRecDepth 100000 in
set_option maxHeartbeats 40000000 in
theorem playW_ref(n:Int)(lv:Value)(l:List DoS)(w:World)(hl:DoV w lv l):
  Calls Tryz.prog 20 #[.int .i64 n,lv] w fun e w'=>∃wv cv,e=.returned (.tuple #[wv,cv,.int .i64 (playWE n l)])∧DwV w' wv (playWX n l)∧Qt w' w.heap.size cv (playWC n l)∧Below w.heap.size w w':=by
 obtain⟨i0,hi,hz0,hz1,hz2⟩:=info_parts Tryz.infoNode;obtain⟨i1,hj,hy0,hy1,hy2⟩:=info_parts Tryz.infoWay;obtain⟨i2,hk,hx0,hx1,hx2⟩:=info_parts Tryz.infoErrno;have hlen:=hl.len_le;have HL:=Za hl;obtain⟨la,lc,rfl,-,-,-⟩:=hl;obtain⟨w1,HW1,R0,HB0,hs0⟩:=xW w [.slice none 0 0,.slice none 0 0] 52;obtain⟨E,HE⟩:∃E,Hid (playWE n l=E):=⟨_,rfl⟩;obtain⟨X,HX⟩:∃X,Hid (playWX n l=X):=⟨_,rfl⟩;obtain⟨C,HC⟩:∃C,Hid (playWC n l=C):=⟨_,rfl⟩;rw[HE.out,HX.out,HC.out];unfold playWX at HX;unfold playWC at HC;rw[HE.out]at HX HC;unfold playWE at HE
 go_enter Tryz.func20,Tryz.ntmps20
 go_upto_region 1 with fail
 rw[HW1.out]
 by_cases hbad:n<1∨6<n∨150<l.length
 ·rw[if_pos hbad]at HE;obtain rfl:=HE.out;obtain rfl:(⟨[],[]⟩:WdS)=X:=HX.out;obtain rfl:([]:List Int)=C:=HC.out;have q:n<1∨(¬n<1∧n > 6)∨(¬n<1∧¬n > 6∧(l.length:Int) > 150):=by omega
  clear hbad;have r0:=R0.get 0 rfl;have s0:=R0.free 0;have r1:=R0.get 1 rfl;have s1:=R0.free 1
  rcases q with q|⟨q,q'⟩|⟨q,q',q2⟩
  all_goals
   go_wp2_with fail
   have hR:=(R0.set 0 (.slice none 0 0)).set 1 (.slice none 0 0);refine bodyPost_ret (Uh rfl _ _ w.heap.size 52 _ (0,0) _ rfl hR Tryz.underlying52 rfl Tryz.sizeWorld) rfl ⟨_,_,rfl,.inr ⟨rfl,rfl⟩,World.ownsRow_nil _ _ _ _,?_⟩
   exact(HB0.setCell (p:=⟨w.heap.size,0,none⟩) (nlr _) _).setCell (p:=⟨w.heap.size,1,none⟩) (nlr _) _
 rw[if_neg hbad]at HE;obtain rfl:=HE.out;rw[if_pos rfl]at HX HC;obtain⟨m,rfl⟩:∃m:Nat,n=m:=⟨n.toNat,by omega⟩;rw[Int.toNat_natCast]at HX HC;have hm1:Hid (1≤m):=by unfold Hid;omega
 have hm6:Hid (m≤6):=by unfold Hid;omega
 have hl150:Hid (l.length≤150):=by unfold Hid;omega
 have q0:¬(m:Int)<1:=by omega
 have q1:¬(m:Int) > 6:=by omega
 have q2:¬(l.length:Int) > 150:=by omega
 clear hbad;obtain⟨w2,HW2,B2,HB2,-⟩:=xW w1 [.slice none 0 0,.slice none 0 0] 52;have G0:Hid (BgX w2 w1.heap.size w.heap.size w1.heap.size m 0 (.slice none 0 0) (.slice none 0 0) [] (fun _=>0)):=⟨by have:=hs0.out;omega,nlr _,B2.out,World.ownsRow_nil _ _ _ _,fun q hq=>by simp at hq,World.ownsRow_nil _ _ _ _,fun a ha=>by omega,fun a b ha=>by omega⟩;clear B2
 go_upto_region 4 with fail
 rw[HW2.out];clear q0 q1 q2
 go_wp2_with fail
 go_loopw [8] (fun iv wr=>∃(k:Nat) (v1 v2:Value) (qs:List (NdS×Value×Value×Value×Value×Value×Value)) (gr:Nat→Nat),k≤m∧iv=.int .i64 k∧Hid (qs.map (·.1)=(List.range k).map fun(i:Nat)=>Uu i m)∧Hid (BgX wr w1.heap.size w.heap.size w1.heap.size m k v1 v2 qs gr)∧Hid (Below w1.heap.size w1 wr)) (fun iv _=>m - (intOf iv).toNat)
 case atStart=>exact⟨0,_,_,[],_,Nat.zero_le _,rfl,Za rfl,G0,HB2⟩
 obtain⟨k,v1,v2,qs,gr,hkm,rfl,HQ,G1,HBm⟩:=hrel;obtain⟨w3,rfl⟩:∃w3,w3=wr:=⟨wr,rfl⟩;clear G0;obtain⟨av1,cv1,rfl⟩:=own_form G1.o1;obtain⟨av2,cv2,rfl⟩:=own_form G1.o2;have HQL:Hid (qs.length=k):=by have h:=congrArg List.length HQ.out;rw[List.length_map,List.length_map,List.length_range]at h;exact h
 by_cases hlt:k<m
 ·have hlt':(k:Int)<(m:Int):=by omega
  have HSZ:=Za HBm.size;obtain⟨d,HD⟩:∃d,Hid (Uu k m=d):=⟨_,rfl⟩
  go_wp2_with fail
  refine(start_ref (k:Int) (m:Int) _ G1.lt).mono ?_;rintro e w4 ⟨rv,rfl,hv4,hb4⟩;rw[HD.out]at hv4;obtain⟨a1,c1,a2,c2,a3,c3,a4,c4,a5,c5,a6,c6,rfl,hF4⟩:=hv4.form;obtain⟨w5,HW5,N5,HB5,-⟩:=xW w4 [.int .i64 d.self,.slice a1 d.st.clock.length c1,.slice a2 d.st.lives.length c2,.slice a3 d.st.tals.length c3,.slice a4 d.base.length c4,.slice a5 d.log.length c5,.slice a6 d.known.length c6] 31;have G5:=Za ((G1.below hb4).below HB5.out);have HB5':=Za (Zb (Zb HBm.out hb4) HB5.out);have hbp:=bpl w5 (.cells #[.int .i64 d.self,.slice a1 d.st.clock.length c1,.slice a2 d.st.lives.length c2,.slice a3 d.st.tals.length c3,.slice a4 d.base.length c4,.slice a5 d.log.length c5,.slice a6 d.known.length c6] 31);have G6:=Za (G5.below hbp);have HB6:=Za (Zb HB5'.out hbp);have F6:=Za ((hF4.off (zM HB5.out (nlr _))).off (zM hbp (nlr _)));have HSRC:=Za (Src.ofSlice (P:=Tryz.prog) (w5.alloc (.cells #[.int .i64 d.self,.slice a1 d.st.clock.length c1,.slice a2 d.st.lives.length c2,.slice a3 d.st.tals.length c3,.slice a4 d.base.length c4,.slice a5 d.log.length c5,.slice a6 d.known.length c6] 31)) (size:=7) Tryz.underlying49 ⟨w5.heap.size,0,none⟩ 1 1 [.int .i64 d.self,.slice a1 d.st.clock.length c1,.slice a2 d.st.lives.length c2,.slice a3 d.st.tals.length c3,.slice a4 d.base.length c4,.slice a5 d.log.length c5,.slice a6 d.known.length c6] rfl (Box.new w5 [.int .i64 d.self,.slice a1 d.st.clock.length c1,.slice a2 d.st.lives.length c2,.slice a3 d.st.tals.length c3,.slice a4 d.base.length c4,.slice a5 d.log.length c5,.slice a6 d.known.length c6] 31).cellsAt (by simp[Value.oneCell']));have HB7:Hid (w1.heap.size≤(w5.alloc (.cells #[.int .i64 d.self,.slice a1 d.st.clock.length c1,.slice a2 d.st.lives.length c2,.slice a3 d.st.tals.length c3,.slice a4 d.base.length c4,.slice a5 d.log.length c5,.slice a6 d.known.length c6] 31)).heap.size):=HB6.size;clear hv4 hF4 hb4 hbp;obtain⟨r0,r1,r2,r3,r4,r5,r6⟩:=N5.c7;have g0:=G5.box.get 0 rfl
  go_upto_region 8 with fail
  rw[HW5.out]
  go_wp2_with (at_builtin;refine Xh _ rfl (.tmp 39) (.tmp 41) 49 49 rfl w1.heap.size 31 i0 (.agg #[.int .i64 0,.slice none 0 0,.slice none 0 0,.slice none 0 0,.slice none 0 0,.slice none 0 0,.slice none 0 0]) 7 152 Tryz.underlying49 hi hz0 hz1 hz2 rfl _ _ _ rfl G6.o1 _ rfl 1 _ HSRC.out (by unfold maxLen;have:=HQL.out;have:=hm6.out;omega) (by have:=HQL.out;have:=hm6.out;omega) HB7.out ?_)
  intro v7 w7 ho7 hgr7 hat7;obtain⟨av7,cv7,rfl⟩:=own_form ho7;obtain⟨G8,hG8⟩:=G6.addN (q:=(d,.slice a1 d.st.clock.length c1,.slice a2 d.st.lives.length c2,.slice a3 d.st.tals.length c3,.slice a4 d.base.length c4,.slice a5 d.log.length c5,.slice a6 d.known.length c6)) F6.out ho7 hgr7 (by rw[World.size_alloc];exact hat7);have HB8:=Za (hG8 w1 HB6.out HB7.out);have HG8:=Za G8;have g0':=((keepsR G6.o1 hgr7).box G6.box (by decide)).get 0 rfl;have f0':=((keepsR G6.o1 hgr7).box G6.box (by decide)).free 0;clear G8 hG8 ho7 hgr7 hat7 g0 r0 r1 r2 r3 r4 r5 r6 G5 G6 F6 HSRC HB6 HB7 HB5';obtain⟨w8,HW8⟩:∃W,Hid (w7.setCell ⟨w1.heap.size,0,none⟩ (.slice av7 (qs.length+1) cv7)=W):=⟨_,rfl⟩;rw[HW8.out]at HG8 HB8
  go_upto_region 9 with fail
  rw[HW8.out];clear g0' f0';have g1:=HG8.box.get 1 rfl;have HK9:=Za fun w' (hg:Zh w8 w')=>Yi hg g1;clear g1;refine bD (fun i=>i==5||i==7) (fun _=>True) (Zi _) HK9.out fun wd hcd hHeld=>?_;refine yT 0 (.pointer (some ⟨w1.heap.size,1,none⟩)) ?_;refine yD 1 (.slice av2 k cv2) ?_;refine yT 2 (.int .i64 (m:Int)) ?_;refine oD 3 fun K hK=>?_;have hmk:=run_make_rows hm6.out wd;obtain⟨zw,HZW⟩:∃zw,Hid (List.replicate m (Value.slice none 0 0)=zw):=⟨_,rfl⟩;rw[HZW.out]at hmk;go_simp;clear hmk;obtain⟨wm,HWm,z3,hbm,hsm⟩:=xW wd zw 103;rw[HWm.out];rw[←HZW.out]at z3;have hgm:Zh w8 wm:=Zd hcd hbm.out;have hHm:=HK9.out _ hgm;refine kS hK hHm ?_;clear hK K;refine oD 4 fun K hK=>?_;go_simp;obtain⟨wn,HWn,z4,hbn,hsn⟩:=xW wm [.slice (some ⟨wd.heap.size,0,none⟩) m m] 100;rw[HWn.out];have hgn:Zh w8 wn:=Zd hgm hbn.out;have hHn:=HK9.out _ hgn;refine kS hK hHn ?_;clear hK K;refine oD 5 fun K hK=>?_;have Gn:=HG8.below hgn;have hsrc:=Src.ofSlice (P:=Tryz.prog) wn (size:=1) Tryz.underlying50 ⟨wm.heap.size,0,none⟩ 1 1 [.slice (some ⟨wd.heap.size,0,none⟩) m m] rfl z4.out.cellsAt (fun q hq=>by rw[List.mem_singleton]at hq;rw[hq];rfl);have hBn:w1.heap.size≤w8.heap.size:=HB8.size;obtain⟨v9,w9,hrun,ho9,hgr9,hat9⟩:=yA (P:=Tryz.prog) wn w1.heap.size 50 50 50 100 i1 _ 1 24 Tryz.underlying50 hj hy0 hy1 hy2 rfl _ _ _ Gn.o2 _ 1 _ hsrc (by unfold maxLen;have:=hm6.out;omega) (by have:=hm6.out;omega) (Nat.le_trans hBn hgn.size);refine step_run hrun ?_;clear hrun;obtain⟨av9,cv9,rfl⟩:=own_form ho9;obtain⟨G9,hG9⟩:=HG8.addR hgn (z3.out.below hbn.out (nlr _)) hcd.size hBn ho9 hgr9 hat9;have HB9:=Za (hG9 w1 (Zb HB8.out hgn));have HG9:=Za G9;have hc1:=((keepsR Gn.o2 hgr9).box Gn.box (by decide)).get 1 rfl;have hf1:=((keepsR Gn.o2 hgr9).box Gn.box (by decide)).free 1;refine kD hK (trivial) ?_;clear hK K;refine yT 6 (.pointer (some ⟨w1.heap.size,1,none⟩)) ?_;refine oD 7 fun K hK=>?_;go_simp;refine kD hK (trivial) ?_;clear hK K;refine eD ?_;clear G9 hG9 Gn hc1 hf1 ho9 hgr9 hat9 hsrc;have hm6':=hm6.out
  go_wp2_with fail
  go_roundw
  case rel=>exact⟨k+1,_,_,_,_,by omega,by go_num,Za (by rw[List.map_append,HQ.out,List.range_succ,List.map_append,←HD.out];rfl),HG9,HB9⟩
  case measure=>simp[intOf];omega
 have hlt':¬(k:Int)<(m:Int):=by omega
 obtain rfl:k=m:=by omega
 obtain⟨gn,gw,cn,cw,h1,h2,hD,hSw⟩:=G1.done HQ.out hm1.out hm6.out;rw[h1,h2]at G1;have D3:=Za (hD.turn (S':=So w.heap.size gn gr k (.slice none 0 0)) (Off.refl (fun _=>False) w3) (fun _ h=>h.elim) id (fun _ _=>id) id id (fun i _ hi=>hi.elim id fun e=>by simp[Value.ownBlock]at e) (.inl hD.sn) (fun a ha=>.inl (hD.sr a ha)) (fun h=>h.elim hD.sg fun e=>by simp[Value.ownBlock]at e) (fun h=>h.elim hD.sw fun e=>by simp[Value.ownBlock]at e));have HSw:=Za hSw
 have HS3:Hid (∀j,Sw w.heap.size gn gr k j→j<w3.heap.size):=fun j hj=>by
  rcases hj with rfl|hj
  ·have:=HBm.size;have:=hs0.out;omega
  exact(hSw j hj).2
 have HBw:Hid (Below w.heap.size w w3):=HB0.trans (HBm.mono (by have:=hs0.out;omega));have HG3:Hid (gw<w3.heap.size∧w1.heap.size<w3.heap.size):=⟨World.block_lt_of_cell? w3 _ (hD.way 0 (by rw[begin_len];exact hm1.out)),hD.box.lt⟩;have HGG:Hid (¬Sw w.heap.size gn gr k w1.heap.size∧¬Sw w.heap.size gn gr k gw):=⟨hD.sg,hD.sw⟩;have R3:=Za (R0.below HBm.out (nlr _));clear hD hSw h1 h2 HBm
 go_wp2_with fail
 go_loopw [11,53] (fun o iv wr=>∃j:Nat,j≤l.length∧iv=.int .i64 j∧Hid (Qt wr w3.heap.size o (runE (Uy k) (l.take j)))∧Hid (DwX (So w.heap.size gn gr k o) wr (runX (Uy k) (l.take j)) w1.heap.size gn gw cn cw gr)∧Hid (Below w.heap.size w wr)∧Hid (Box wr w.heap.size [.slice none 0 0,.slice none 0 0] 52)∧Hid (w3.heap.size≤wr.heap.size)) (fun _ iv _=>l.length - (intOf iv).toNat)
 case atStart=>exact⟨0,Nat.zero_le _,rfl,World.ownsRow_nil _ _ _ _,D3,HBw,R3,Za (nlr _)⟩
 obtain⟨j,hjl,rfl,C4,D4,HB4,R4,HZ4⟩:=hrel;obtain⟨w4,rfl⟩:∃w4,w4=wr:=⟨wr,rfl⟩;clear D3 HBw R3;obtain⟨ca,cc,rfl⟩:=C4.form;obtain⟨es,HES⟩:∃es,Hid (runE (Uy k) (l.take j)=es):=⟨_,rfl⟩;obtain⟨Y,HY⟩:∃Y,Hid (runX (Uy k) (l.take j)=Y):=⟨_,rfl⟩;rw[HES.out]at C4 ⊢;rw[HES.out,HY.out]at D4;have HYN:Hid (Y.nodes.length=k):=by unfold Hid;rw[←HY.out,runX_len,begin_len]
 have HEL:Hid (es.length=j):=by unfold Hid;rw[←HES.out,runE_length,List.length_take];omega
 by_cases hjt:j<l.length
 ·have hjt':(j:Int)<(l.length:Int):=by omega
  obtain⟨o,ho⟩:∃o,l[j]? =some o:=⟨_,List.getElem?_eq_getElem hjt⟩;have HTE:Hid (runE (Uy k) (l.take (j+1))=es++[Xk Y o]):=by unfold Hid;rw[List.take_add_one,ho];simp only[Option.toList_some];rw[runE_snoc,HES.out,HY.out]
  have HTX:Hid (runX (Uy k) (l.take (j+1))=stepX Y o):=by unfold Hid;rw[List.take_add_one,ho];simp only[Option.toList_some];rw[runX_snoc,HY.out]
  obtain⟨lb,lo,sa,sc,rfl,hsv,d0,d1,d2,d3,d4,d5,d6,d7⟩:=(HL.below HB4.out (nlr _)).do_at ho;obtain⟨kd,N,T,ua,us,uk,uy,ui⟩:=o
  simp only at hsv d0 d1 d2 d3 d4 d5 d6 d7
  obtain⟨w5,HW5,O5,HB5,-⟩:=xW w4 [.int .i64 kd,.int .i64 N,.int .i64 T,.int .i64 ua,.slice sa us.length sc,.int .i64 uk,.int .i64 uy,.int .i64 ui] 98;have D5:=Za (D4.below HB5.out);have U5:=Za (hsv.below HB5.out (nlr _));have C5:=Za (C4.below HB5.out);have R5:=Za (R4.below HB5.out (nlr _));have HBw5:Hid (Below w.heap.size w w5):=HB4.trans (HB5.mono HB4.size);have HS5:Hid (∀i,So w.heap.size gn gr k (.slice ca es.length cc) i→i<w5.heap.size):=fun i hi=>hi.elim (fun hi=>by have:=HS3.out i hi;have:=HZ4.out;have:=HB5.size;omega) fun hi=>(C5.lt i hi).2;have HZ5:Hid (w3.heap.size≤w5.heap.size):=Nat.le_trans HZ4.out HB5.size;clear hsv C4 D4 R4 HB4 HZ4
  go_upto_region 14 with fail
  rw[HW5.out];clear d0 d1 d2 d3 d4 d5 d6 d7;obtain⟨d0,d1,d2,d3,d4,d5,d6⟩:=O5.c7;have d7:=O5.get 7 rfl
  go_wp2_with fail
  refine(step_ref (o:=⟨kd,N,T,ua,us,uk,uy,ui⟩) _ D5.out ⟨_,rfl,U5.out⟩ HS5.out).mono ?_;rintro e w6 ⟨rfl,hd6,ho6⟩;obtain⟨Z,HZ⟩:∃Z,Hid (Xk Y ⟨kd,N,T,ua,us,uk,uy,ui⟩=Z):=⟨_,rfl⟩;rw[HZ.out]at HTE ⊢;have ho6':Off (Wt gn gr k) w5 w6:=by rw[←HYN.out];exact ho6
  have C6:=Za (Ua C5.out (fun i hi=>(HSw.out i hi).2) ho6');have HB6:=Za (ho6'.under HBw5.out (fun i hi=>by have:=(HSw.out i hi).1;have:=hs0.out;omega) (nlr _));have R6:=Za (R5.off ho6' (fun h=>by have:=(HSw.out _ h).1;have:=hs0.out;omega));have hbp:=bpl w6 (.cells #[.int .i64 Z] 36);have C7:=Za (Zp C6.out hbp (nlr _));have D7:=Za (hd6.below hbp);have HSRC:=Za (Src.ofSlice (P:=Tryz.prog) (w6.alloc (.cells #[.int .i64 Z] 36)) (size:=1) Tryz.underlying53 ⟨w6.heap.size,0,none⟩ 1 1 [.int .i64 Z] rfl (Box.new w6 [.int .i64 Z] 36).cellsAt (fun q hq=>by rw[List.mem_singleton]at hq;rw[hq];rfl));have HB7:=Za (HB6.trans (hbp.mono HB6.size));have R7:=Za (R6.below hbp (nlr _));have HZ7:Hid (w3.heap.size≤(w6.alloc (.cells #[.int .i64 Z] 36)).heap.size):=Nat.le_trans HZ5.out (Nat.le_trans ho6.size hbp.size);clear hd6 ho6 ho6' hbp C6 C5 D5 R5 R6 U5 d0 d1 d2 d3 d4 d5 d6 d7
  go_wp2_with (at_builtin;refine Xh _ rfl (.tmp 57) (.tmp 60) 53 53 rfl w3.heap.size 36 i2 (.int .i64 0) 1 8 Tryz.underlying53 hk hx0 hx1 hx2 rfl _ _ _ rfl C7.out _ rfl 1 _ HSRC.out (by unfold maxLen;have:=HEL.out;have:=hl150.out;omega) (by have:=HEL.out;have:=hl150.out;omega) HZ7.out ?_)
  intro v8 w8 ho8 hgr8 hat8;have C8:Hid (Qt w8 w3.heap.size v8 (es++[Z])):=by unfold Hid Qt;rw[List.map_append,List.length_append];exact ho8
  have K8:=keepsR C7.out hgr8;have HB8:=Za (HB7.grown hgr8 (by have:=HB7.size;omega) fun i hi=>by have:=(C7.lt i hi).1;have:=HBw5.size;have:=HZ5.out;have:=HS3.out w.heap.size (.inl rfl);omega);have R8:=Za (K8.box R7.out (by decide));have hnb:∀i,i<w3.heap.size→¬(Value.slice ca es.length cc).ownBlock=some i:=fun i hi e=>by have:=(C7.lt i e).1;omega
  have hnb8:∀i,i<w3.heap.size→¬v8.ownBlock=some i:=fun i hi e=>by have:=(C8.lt i e).1;omega
  have D8:=Za (D7.turn (S':=So w.heap.size gn gr k v8) (Off.ofGrown (S:=fun i=>(Value.slice ca es.length cc).ownBlock=some i) hgr8 fun i hi=>hi) (fun i hi=>.inr hi) (hnb _ (HSw.out gn (.inl rfl)).2) (fun a ha=>hnb _ (HSw.out (gr a) (.inr ⟨a,by rw[stepX_len,HYN.out]at ha;exact ha,rfl⟩)).2) (hnb _ HG3.2) (hnb _ HG3.1) (fun i hi hh=>hh.elim .inl fun e=>by
   rcases hat8 with e8|e8
   ·exact .inr (e8 ▸ e)
   rw[e8,Option.some.injEq]at e;rw[World.size_alloc]at hi
   omega) (.inl (.inr (.inl rfl))) (fun a ha=>.inl (.inr (.inr ⟨a,by rw[stepX_len,HYN.out]at ha;exact ha,rfl⟩))) (fun h=>h.elim HGG.1 (hnb8 _ HG3.2)) (fun h=>h.elim HGG.2 (hnb8 _ HG3.1)))
  have HZ8:Hid (w3.heap.size≤w8.heap.size):=Nat.le_trans HZ7.out hgr8.size;clear ho8 hgr8 hat8 K8 hnb hnb8 C7 D7 R7 HSRC HB7 HZ7
  go_wp2_with fail
  go_roundw
  case rel=>exact⟨j+1,by omega,by go_num,by rw[HTE.out];exact C8,by rw[HTX.out];exact D8,HB8,R8,HZ8⟩
  case measure=>simp[intOf];omega
 have hjt':¬(j:Int)<(l.length:Int):=by omega
 obtain rfl:Y=X:=by rw[←HY.out,←HX.out,List.take_of_length_le (by omega)]
 obtain rfl:es=C:=by rw[←HES.out,←HC.out,List.take_of_length_le (by omega)]
 obtain⟨g0,g1⟩:=D4.box.c2;have r0:=R4.get 0 rfl;have s0:=R4.free 0;have r1:=R4.get 1 rfl;have s1:=R4.free 1;have hne:¬(w1.heap.size=w.heap.size):=by have:=hs0.out;omega
 have hne':¬(w.heap.size=w1.heap.size):=by have:=hs0.out;omega
 have og:=((Off.refl (fun i=>i=w.heap.size) w4).set rfl 0 (.slice (some ⟨gn,0,none⟩) Y.nodes.length cn)).set rfl 1 (.slice (some ⟨gw,0,none⟩) Y.nodes.length cw);have hnr:∀i,w1.heap.size≤i→¬i=w.heap.size:=fun i hi=>by have:=hs0.out;omega
 have DZ:=Za (D4.turn (S':=So w.heap.size gn gr k (.slice ca es.length cc)) og (fun i hi=>.inl (.inl hi)) (hnr _ (HSw.out gn (.inl rfl)).1) (fun a ha=>hnr _ (HSw.out (gr a) (.inr ⟨a,by rw[←HYN.out];exact ha,rfl⟩)).1) hne (fun e=>HGG.2 (.inl e)) (fun _ _ h=>h) D4.sn D4.sr D4.sg D4.sw);have CZ:=Za (Zw (Ua C4.out (fun i hi=>by have:=HS3.out w.heap.size (.inl rfl);omega) og) (C:=w.heap.size) (by have:=HS3.out w.heap.size (.inl rfl);omega));have BZ:=Za ((HB4.setCell (p:=⟨w.heap.size,0,none⟩) (nlr _) (.slice (some ⟨gn,0,none⟩) Y.nodes.length cn)).setCell (p:=⟨w.heap.size,1,none⟩) (nlr _) (.slice (some ⟨gw,0,none⟩) Y.nodes.length cw));have RZ:=Za ((R4.set 0 (.slice (some ⟨gn,0,none⟩) Y.nodes.length cn)).set 1 (.slice (some ⟨gw,0,none⟩) Y.nodes.length cw));clear og hnr
 go_wp2_with fail
 exact bodyPost_ret (Uh rfl _ _ w.heap.size 52 _ (0,0) _ rfl RZ.out Tryz.underlying52 rfl Tryz.sizeWorld) rfl ⟨_,_,rfl,.inl ⟨_,_,_,_,_,_,_,rfl,DZ.out⟩,CZ.out,BZ.out⟩
end Go.Proofs.YtfhecilhcofboaaGreat
/- What is read of a world, the program's or the document's; the document's own SameWorld. -/
namespace Go.Proofs.YtfhecilhcofboaaGreat
open Go.RowKit

def PwV(w:World)(v:Value)(ps:List Pcl):Prop:=∃a c,v=.slice a ps.length c∧ps.length≤9223372036854775807∧∀j p,ps[j]? =some p→∃b off x0 x1 x2 x3 x4 x5,a=some ⟨b,off,none⟩∧IsPcl w (.agg #[x0,x1,x2,x3,x4,x5]) p∧w.cell? ⟨b,off+j*6,none⟩=some x0∧w.cell? ⟨b,off+j*6+1,none⟩=some x1∧w.cell? ⟨b,off+j*6+2,none⟩=some x2∧w.cell? ⟨b,off+j*6+3,none⟩=some x3∧w.cell? ⟨b,off+j*6+4,none⟩=some x4∧w.cell? ⟨b,off+j*6+5,none⟩=some x5
structure WdV (w:World) (a1 a2:Option Addr) (W:WdS):Prop where
 few:W.nodes.length≤6
 nodes:∀i,i<W.nodes.length→∃gn x0 x1 x2 x3 x4 x5 x6,a1=some ⟨gn,0,none⟩∧Vp w (.agg #[x0,x1,x2,x3,x4,x5,x6]) (Xa W i)∧w.cell? ⟨gn,i*7,none⟩=some x0∧w.cell? ⟨gn,i*7+1,none⟩=some x1∧w.cell? ⟨gn,i*7+2,none⟩=some x2∧w.cell? ⟨gn,i*7+3,none⟩=some x3∧w.cell? ⟨gn,i*7+4,none⟩=some x4∧w.cell? ⟨gn,i*7+5,none⟩=some x5∧w.cell? ⟨gn,i*7+6,none⟩=some x6
 way:∀a,a<W.nodes.length→∃gw gr,a2=some ⟨gw,0,none⟩∧w.cell? ⟨gw,a,none⟩=some (.slice (some ⟨gr,0,none⟩) W.nodes.length W.nodes.length)∧∀b,b<W.nodes.length→∃v,w.cell? ⟨gr,b,none⟩=some v∧PwV w v (Oi W a b)
def WdR(w:World)(v:Value)(W:WdS):Prop:=∃a1 c1 a2 c2,v=.agg #[.slice a1 W.nodes.length c1,.slice a2 W.nodes.length c2]∧WdV w a1 a2 W
section
variable {S:Nat→Prop}{w w':World}{v:Value}{ps:List Pcl}{W:WdS}{B:Nat}
theorem PwV.below(h:PwV w v ps)(hb:Below w.heap.size w w'):PwV w' v ps:=by
 obtain⟨a,c,h1,h2,h3⟩:=h;refine⟨a,c,h1,h2,fun j p hp=>?_⟩;obtain⟨b,off,x0,x1,x2,x3,x4,x5,e,hi,d0,d1,d2,d3,d4,d5⟩:=h3 j p hp;exact⟨b,off,x0,x1,x2,x3,x4,x5,e,hi.below hb (nlr _),Yi hb d0,Yi hb d1,Yi hb d2,Yi hb d3,Yi hb d4,Yi hb d5⟩
theorem WdV.below{a1 a2:Option Addr}(h:WdV w a1 a2 W)(hb:Below w.heap.size w w'):WdV w' a1 a2 W:=by
 refine⟨h.few,fun i hi=>?_,fun a ha=>?_⟩
 ·obtain⟨gn,x0,x1,x2,x3,x4,x5,x6,e,hn,d0,d1,d2,d3,d4,d5,d6⟩:=h.nodes i hi;exact⟨gn,x0,x1,x2,x3,x4,x5,x6,e,hn.below hb (nlr _),Yi hb d0,Yi hb d1,Yi hb d2,Yi hb d3,Yi hb d4,Yi hb d5,Yi hb d6⟩
 obtain⟨gw,gr,e,hc,hr⟩:=h.way a ha;refine⟨gw,gr,e,Yi hb hc,fun b hb'=>?_⟩;obtain⟨v,h1,h2⟩:=hr b hb';exact⟨v,Yi hb h1,h2.below hb⟩
theorem WdR.below(h:WdR w v W)(hb:Below w.heap.size w w'):WdR w' v W:=by
 obtain⟨a1,c1,a2,c2,e,h⟩:=h;exact⟨a1,c1,a2,c2,e,h.below hb⟩
theorem PwR.view(h:PwR S w v ps):PwV w v ps:=by
 obtain⟨qs,rfl,h2,h3⟩:=h;obtain⟨a,c,e,hl,hm,hat⟩:=h2.here;refine⟨a,c,by rw[List.length_map];exact e,by rw[List.length_map];unfold maxLen at hm;omega,fun j p hp=>?_⟩;rw[List.getElem?_map,Option.map_eq_some_iff]at hp;obtain⟨q,hq,rfl⟩:=hp;obtain⟨b,off,ea,hc⟩:=hat j q hq;exact⟨b,off,_,_,_,_,_,_,ea,PcF.pcl (h3 q (List.mem_of_getElem? hq)),hc 0 _ rfl,hc 1 _ rfl,hc 2 _ rfl,hc 3 _ rfl,hc 4 _ rfl,hc 5 _ rfl⟩
theorem PwO.view:∀(ps:List Pcl) {v:Value},PwO w B v ps→PwV w v ps
 |[],v,h=>by
  obtain⟨a,c,e⟩:=h.form;exact⟨a,c,e,by simp,fun j p hp=>by simp at hp⟩
 |p::r,v,h=>by
  have hlen:=h.len_le;obtain⟨g,o,c,x0,x1,x2,x3,x4,x5,rfl,-,hp,⟨d0,d1,d2,d3,d4,d5⟩,hrc,-,h1⟩:=h.head;refine⟨_,_,rfl,hlen,fun j q hq=>?_⟩
  cases j with
  |zero=>
   simp only[List.getElem?_cons_zero,Option.some.injEq]at hq;subst hq;refine⟨g,o,x0,x1,x2,x3,x4,x5,rfl,hp.pcl,?_⟩;rw[Nat.zero_mul,Nat.add_zero];exact⟨d0,d1,d2,d3,d4,d5⟩
  |succ j=>
   have hq':r[j]? =some q:=by simpa using hq
   have hj:=(List.getElem?_eq_some_iff.1 hq').1;obtain⟨a',c',e',-,h2⟩:=PwO.view r (h1 (by omega));simp only[Value.slice.injEq]at e';obtain⟨rfl,-⟩:=e';obtain⟨b,off,y0,y1,y2,y3,y4,y5,e2,hp2,hd⟩:=h2 j q hq';simp only[Option.some.injEq,Addr.mk.injEq,and_true]at e2;obtain⟨rfl,rfl⟩:=e2;refine⟨g,o,y0,y1,y2,y3,y4,y5,rfl,hp2,?_⟩;rw[show o+(j+1)*6=o+6+j*6 by omega];exact hd
theorem empty_view:WdV w none none ⟨[],[]⟩:=⟨by simp,fun i hi=>by simp at hi,fun a ha=>by simp at ha⟩
theorem Uz.view(h:Uz w B v W):WdR w v W:=by
 rcases h with⟨gn,gw,gr,rv,rfl,hx⟩|⟨rfl,rfl⟩
 ·refine⟨_,_,_,_,rfl,hx.few,fun i hi=>?_,fun a ha=>⟨gw,gr a,rfl,hx.way.get a (by rw[List.getElem?_map,List.getElem?_range ha];rfl),fun b hb=>?_⟩⟩
  ·obtain⟨x0,x1,x2,x3,x4,x5,x6,hn,hc⟩:=hx.nodes.at (node_at hi);exact⟨gn,x0,x1,x2,x3,x4,x5,x6,rfl,hn.node,hc⟩
  obtain⟨-,r2,r3⟩:=hx.rows a ha;exact⟨_,r2.get b (getD_some (by omega)),PwO.view _ (hx.pcl a b ha hb (by simp))⟩
 exact⟨none,0,none,0,rfl,empty_view⟩
theorem DwV.view(h:DwV w v W):WdR w v W:=by
 rcases h with⟨S,g,gn,gw,cn,cw,gr,rfl,hx⟩|⟨rfl,rfl⟩
 ·refine⟨_,_,_,_,rfl,hx.few,fun i hi=>?_,fun a ha=>⟨gw,gr a,rfl,hx.way a ha,fun b hb=>?_⟩⟩
  ·obtain⟨x1,x2,x3,x4,x5,x6,hn,hc,-⟩:=hx.node hi;exact⟨gn,_,x1,x2,x3,x4,x5,x6,rfl,hn.node,hc⟩
  obtain⟨rs,av,c,h1,h2,h3,-⟩:=hx.at ha hb;exact⟨_,h1.get b h2,h3.view⟩
 exact⟨none,0,none,0,rfl,empty_view⟩
end

set_option maxRecDepth 100000 in
set_option maxHeartbeats 40000000 in
theorem sameWorld_yes(u v:Value)(W:WdS)(w:World)(hu:WdR w u W)(hv:WdR w v W):
  Calls Tryz.prog 21 #[u,v] w fun e w'=>e=.returned (.bool true)∧Below w.heap.size w w':=by
 obtain⟨a1,c1,a2,c2,rfl,hu⟩:=hu;obtain⟨b1,e1,b2,e2,rfl,hv⟩:=hv;obtain⟨w0,HW0,B1,B2,HB0,-⟩:=lay2 w [.slice a1 W.nodes.length c1,.slice a2 W.nodes.length c2] 52 [.slice b1 W.nodes.length e1,.slice b2 W.nodes.length e2] 52;have HU:=Za (hu.below HB0.out);have HV:=Za (hv.below HB0.out);have hn6:=hu.few;clear hu hv;obtain⟨s0,s1⟩:=B1.c2;obtain⟨t0,t1⟩:=B2.c2
 go_enter Tryz.func21,Tryz.ntmps21
 go_upto_region 1 with fail
 rw[HW0.out]
 go_wp2_with fail
 clear s0 s1 t0 t1
 go_loopw [29] (fun q wr=>∃i:Nat,i≤W.nodes.length∧q=.int .i64 i∧Hid (Below w0.heap.size w0 wr)) (fun q _=>W.nodes.length - (intOf q).toNat)
 case atStart=>exact⟨0,Nat.zero_le _,rfl,Za (Below.refl _ _)⟩
 obtain⟨i,hi,rfl,HB1⟩:=hrel;obtain⟨w1,rfl⟩:∃w1,w1=wr:=⟨wr,rfl⟩
 by_cases hlt:i<W.nodes.length
 ·have hlt':(i:Int)<(W.nodes.length:Int):=by omega
  obtain⟨gn,x0,x1,x2,x3,x4,x5,x6,rfl,hx,d0,d1,d2,d3,d4,d5,d6⟩:=(HU.below HB1.out).nodes i hlt;obtain⟨hn,y0,y1,y2,y3,y4,y5,y6,rfl,hy,f0,f1,f2,f3,f4,f5,f6⟩:=(HV.below HB1.out).nodes i hlt;obtain⟨gw,gr,rfl,kw,hkr⟩:=(HU.below HB1.out).way i hlt;obtain⟨hw,hr,rfl,lw,hlr⟩:=(HV.below HB1.out).way i hlt;have M1:=Za hx;have M2:=Za hy;have K1:=Za hkr;have K2:=Za hlr;obtain⟨s0,s1⟩:=(B1.below HB1.out (nlr _)).c2;obtain⟨t0,t1⟩:=(B2.below HB1.out (nlr _)).c2;have HK:=Za fun w' (hg:Zh w1 w')=>And.intro (Yi hg s0) (And.intro (Yi hg s1) (And.intro (Yi hg t0) (And.intro (Yi hg t1) (And.intro (Yi hg d0) (And.intro (Yi hg d1) (And.intro (Yi hg d2) (And.intro (Yi hg d3) (And.intro (Yi hg d4) (And.intro (Yi hg d5) (And.intro (Yi hg d6) (And.intro (Yi hg f0) (And.intro (Yi hg f1) (And.intro (Yi hg f2) (And.intro (Yi hg f3) (And.intro (Yi hg f4) (And.intro (Yi hg f5) (And.intro (Yi hg f6) (And.intro (Yi hg kw) ((Yi hg lw))))))))))))))))))));clear hx hy hkr hlr
  go_upto_region 6 with fail
  clear s0 s1 t0 t1 d0 d1 d2 d3 d4 d5 d6 f0 f1 f2 f3 f4 f5 f6;refine bD (fun _=>false) (fun _=>True) (Zi _) HK.out fun wd hcd hHeld=>?_;refine yD 0 (.pointer (some ⟨w.heap.size,0,none⟩)) ?_;refine yD 1 (.slice (some ⟨gn,0,none⟩) W.nodes.length c1) ?_;refine yD 2 (.int .i64 (i:Int)) ?_;refine yD 3 (.pointer (some ⟨gn,i*7,none⟩)) ?_;refine yD 4 (.agg #[x0,x1,x2,x3,x4,x5,x6]) ?_;refine yD 5 (.pointer (some ⟨w.heap.size+1,0,none⟩)) ?_;refine yD 6 (.slice (some ⟨hn,0,none⟩) W.nodes.length e1) ?_;refine yD 7 (.int .i64 (i:Int)) ?_;refine yD 8 (.pointer (some ⟨hn,i*7,none⟩)) ?_;refine yD 9 (.agg #[y0,y1,y2,y3,y4,y5,y6]) ?_;refine oD 10 fun K hK=>?_;go_simp;refine(sameNode_yes _ _ (Xa W i) _ (M1.below hcd (nlr _)) (M2.below hcd (nlr _))).mono ?_;rintro e w_10 ⟨rfl,hb_10⟩;go_simp;have hg_10:Zh w1 w_10:=Zd hcd hb_10;have hH_10:=HK.out _ hg_10;refine kS hK hH_10 ?_;clear hK K;refine yD 11 (.bool false) ?_;refine yD 12 (.bool false) ?_;refine yD 13 (.pointer (some ⟨w.heap.size,1,none⟩)) ?_;refine yD 14 (.slice (some ⟨gw,0,none⟩) W.nodes.length c2) ?_;refine yD 15 (.int .i64 (i:Int)) ?_;refine yD 16 (.pointer (some ⟨gw,i,none⟩)) ?_;refine yD 17 (.slice (some ⟨gr,0,none⟩) W.nodes.length W.nodes.length) ?_;refine yD 18 (.int .i64 W.nodes.length) ?_;refine yD 19 (.pointer (some ⟨w.heap.size+1,1,none⟩)) ?_;refine yD 20 (.slice (some ⟨hw,0,none⟩) W.nodes.length e2) ?_;refine yD 21 (.int .i64 (i:Int)) ?_;refine yD 22 (.pointer (some ⟨hw,i,none⟩)) ?_;refine yD 23 (.slice (some ⟨hr,0,none⟩) W.nodes.length W.nodes.length) ?_;refine yD 24 (.int .i64 W.nodes.length) ?_;refine yD 25 (.bool false) ?_;refine yD 26 (.bool false) ?_;refine eD ?_;have HB2:=Za hg_10;obtain⟨w2,rfl⟩:∃w2,w2=w_10:=⟨w_10,rfl⟩;have s1:=((B1.below HB1.out (nlr _)).below HB2.out (nlr _)).get 1 rfl;have kw2:=Yi HB2.out kw;have HW1:=Za kw;have HW2:=Za lw;clear kw lw HK
  go_wp2_with fail
  clear s1 kw2
  go_loopw [65] (fun q wr=>∃k:Nat,k≤W.nodes.length∧q=.int .i64 k∧Hid (Below w1.heap.size w1 wr)) (fun q _=>W.nodes.length - (intOf q).toNat)
  case atStart=>exact⟨0,Nat.zero_le _,rfl,HB2⟩
  obtain⟨k,hk,rfl,HB3⟩:=hrel;obtain⟨w3,rfl⟩:∃w3,w3=wr:=⟨wr,rfl⟩;clear HB2
  by_cases hkt:k<W.nodes.length
  ·have hkt':(k:Int)<(W.nodes.length:Int):=by omega
   obtain⟨v1,z1,hp⟩:=K1.out k hkt;obtain⟨v2,z2,hq⟩:=K2.out k hkt;obtain⟨ps,HPS⟩:∃ps,Hid (Oi W i k=ps):=⟨_,rfl⟩;rw[HPS.out]at hp hq;obtain⟨pa,pc,rfl,hpl,hp⟩:=hp.below HB3.out;obtain⟨qa,qc,rfl,-,hq⟩:=hq.below HB3.out;have HP:=Za hp;have HQ:=Za hq;have z1':=Yi HB3.out z1;have z2':=Yi HB3.out z2;have s1:=((B1.below HB1.out (nlr _)).below HB3.out (nlr _)).get 1 rfl;have t1:=((B2.below HB1.out (nlr _)).below HB3.out (nlr _)).get 1 rfl;have kw:=Yi HB3.out HW1.out;have lw:=Yi HB3.out HW2.out;have HK:=Za fun w' (hg:Zh w3 w')=>And.intro (Yi hg s1) (And.intro (Yi hg t1) (And.intro (Yi hg kw) (And.intro (Yi hg lw) (And.intro (Yi hg z1') ((Yi hg z2'))))));clear z1 z2 hp hq
   go_upto_region 11 with fail
   clear s1 t1 kw lw z1' z2';refine bD (fun _=>false) (fun _=>True) (Zi _) HK.out fun wd hcd hHeld=>?_;refine yD 0 (.pointer (some ⟨w.heap.size,1,none⟩)) ?_;refine yD 1 (.slice (some ⟨gw,0,none⟩) W.nodes.length c2) ?_;refine yD 2 (.int .i64 (i:Int)) ?_;refine yD 3 (.pointer (some ⟨gw,i,none⟩)) ?_;refine yD 4 (.slice (some ⟨gr,0,none⟩) W.nodes.length W.nodes.length) ?_;refine yD 5 (.int .i64 (k:Int)) ?_;refine yD 6 (.pointer (some ⟨gr,k,none⟩)) ?_;refine yD 7 (.slice pa ps.length pc) ?_;refine yD 8 (.pointer (some ⟨w.heap.size+1,1,none⟩)) ?_;refine yD 9 (.slice (some ⟨hw,0,none⟩) W.nodes.length e2) ?_;refine yD 10 (.int .i64 (i:Int)) ?_;refine yD 11 (.pointer (some ⟨hw,i,none⟩)) ?_;refine yD 12 (.slice (some ⟨hr,0,none⟩) W.nodes.length W.nodes.length) ?_;refine yD 13 (.int .i64 (k:Int)) ?_;refine yD 14 (.pointer (some ⟨hr,k,none⟩)) ?_;refine yD 15 (.slice qa ps.length qc) ?_;refine oD 16 fun K hK=>?_;go_simp;have hH_16:=HK.out _ hcd;refine kS hK hH_16 ?_;clear hK K;refine oD 17 fun K hK=>?_;go_simp;have hH_a:=hH_16;refine kS hK hH_a ?_;clear hK K;refine eD ?_;have HB4:=Za hcd;obtain⟨w4,rfl⟩:∃w4,w4=wd:=⟨wd,rfl⟩;clear HK
   go_wp2_with fail
   go_loopw [91] (fun q wr=>∃j:Nat,j≤ps.length∧q=.int .i64 j∧Hid (Below w3.heap.size w3 wr)) (fun q _=>ps.length - (intOf q).toNat)
   case atStart=>exact⟨0,Nat.zero_le _,rfl,HB4⟩
   obtain⟨j,hj,rfl,HB5⟩:=hrel;obtain⟨w5,rfl⟩:∃w5,w5=wr:=⟨wr,rfl⟩;clear HB4
   by_cases hjt:j<ps.length
   ·have hjt':(j:Int)<(ps.length:Int):=by omega
    obtain⟨p,hpj⟩:∃p,ps[j]? =some p:=⟨_,List.getElem?_eq_getElem hjt⟩;obtain⟨pb,po,x0,x1,x2,x3,x4,x5,rfl,hx,d0,d1,d2,d3,d4,d5⟩:=HP.out j p hpj;obtain⟨qb,qo,y0,y1,y2,y3,y4,y5,rfl,hy,f0,f1,f2,f3,f4,f5⟩:=HQ.out j p hpj;have P1:=Za (hx.below HB5.out (nlr _));have P2:=Za (hy.below HB5.out (nlr _));have HK:=Za fun w' (hg:Zh w5 w')=>And.intro (Yi hg (Yi HB5.out d0)) (And.intro (Yi hg (Yi HB5.out d1)) (And.intro (Yi hg (Yi HB5.out d2)) (And.intro (Yi hg (Yi HB5.out d3)) (And.intro (Yi hg (Yi HB5.out d4)) (And.intro (Yi hg (Yi HB5.out d5)) (And.intro (Yi hg (Yi HB5.out f0)) (And.intro (Yi hg (Yi HB5.out f1)) (And.intro (Yi hg (Yi HB5.out f2)) (And.intro (Yi hg (Yi HB5.out f3)) (And.intro (Yi hg (Yi HB5.out f4)) ((Yi hg (Yi HB5.out f5)))))))))))));clear hx hy hpj d0 d1 d2 d3 d4 d5 f0 f1 f2 f3 f4 f5
    go_upto_region 17 with fail
    refine bD (fun _=>false) (fun _=>True) (Zi _) HK.out fun wd hcd hHeld=>?_;refine yD 0 (.slice (some ⟨pb,po,none⟩) ps.length pc) ?_;refine yD 1 (.int .i64 (j:Int)) ?_;refine yD 2 (.pointer (some ⟨pb,po+j*6,none⟩)) ?_;refine yD 3 (.agg #[x0,x1,x2,x3,x4,x5]) ?_;refine yD 4 (.slice (some ⟨qb,qo,none⟩) ps.length qc) ?_;refine yD 5 (.int .i64 (j:Int)) ?_;refine yD 6 (.pointer (some ⟨qb,qo+j*6,none⟩)) ?_;refine yD 7 (.agg #[y0,y1,y2,y3,y4,y5]) ?_;refine oD 8 fun K hK=>?_;go_simp;refine(sameParcel_yes _ _ p _ (P1.below hcd (nlr _)) (P2.below hcd (nlr _))).mono ?_;rintro e w_8 ⟨rfl,hb_8⟩;go_simp;have hg_8:Zh w5 w_8:=Zd hcd hb_8;have hH_8:=HK.out _ hg_8;refine kS hK hH_8 ?_;clear hK K;refine yD 9 (.bool false) ?_;refine eD ?_;have HB6:=Za (Zb HB5.out hg_8);clear HK
    go_wp2_with fail
    go_roundw
    case rel=>exact⟨j+1,by omega,by go_num,HB6⟩
    case measure=>simp[intOf];omega
   have hjt':¬(j:Int)<(ps.length:Int):=by omega
   have HB6:=Za (Zb HB3.out HB5.out)
   go_wp2_with fail
   go_roundw
   case rel=>exact⟨k+1,by omega,by go_num,HB6⟩
   case measure=>simp[intOf];omega
  have hkt':¬(k:Int)<(W.nodes.length:Int):=by omega
  have HB6:=Za (Zb HB1.out HB3.out)
  go_wp2_with fail
  go_roundw
  case rel=>exact⟨i+1,by omega,by go_num,HB6⟩
  case measure=>simp[intOf];omega
 have hlt':¬(i:Int)<(W.nodes.length:Int):=by omega
 have HB6:=Za (Zb HB0.out HB1.out)
 go_wp2_with fail
 go_ret
 exact⟨rfl,HB6.out⟩
end Go.Proofs.YtfhecilhcofboaaGreat
/- WorldTells, walked. -/
namespace Go.Proofs.YtfhecilhcofboaaGreat
open Go.RowKit

set_option maxRecDepth 100000 in
set_option maxHeartbeats 40000000 in
theorem wtells_law(n:Int)(lv:Value)(l:List DoS)(w0:World)(hl:DoV w0 lv l):
  Calls Tryz.prog 4 #[.int .i64 n,lv] w0 fun e w'=>e=.returned (.bool true)∧Below w0.heap.size w0 w':=by
 have L0:=Za hl;obtain⟨la,lc,rfl,-,-,-⟩:=hl;obtain⟨E,HE⟩:∃E,Hid (playWE n l=E):=⟨_,rfl⟩;obtain⟨X,HX⟩:∃X,Hid (playWX n l=X):=⟨_,rfl⟩;obtain⟨C,HC⟩:∃C,Hid (playWC n l=C):=⟨_,rfl⟩
 go_enter Tryz.func4,Tryz.ntmps4
 go_wp2_with fail
 refine(play_w n _ l _ L0.out).mono ?_;rintro e w1 ⟨wv,cv,rfl,hW,hC,hb1⟩;rw[HE.out];rw[HX.out]at hW;rw[HC.out]at hC;obtain⟨a1,c1,a2,c2,rfl,hv⟩:=hW.view;obtain⟨ca,cc,rfl⟩:=hC.form;obtain⟨w2,HW2,B2,HB2,-⟩:=xW w1 [.slice a1 X.nodes.length c1,.slice a2 X.nodes.length c2] 52;have V2:=Za (hv.below HB2.out);have C2:=Za (hC.below HB2.out);have L2:=Za ((L0.below hb1 (nlr _)).below HB2.out (nlr _));have HBa:=Za (Zb hb1 HB2.out);clear hW hC hv hb1 L0
 go_upto_region 2 with fail
 rw[HW2.out]
 go_wp2_with fail
 refine(playW_ref n _ l _ L2.out).mono ?_;rintro e w3 ⟨wv,cv,rfl,hW,hC,hb3⟩;rw[HE.out];rw[HX.out]at hW;rw[HC.out]at hC;obtain⟨b1,e1,b2,e2,rfl,hv⟩:=hW.view;obtain⟨da,dc,rfl⟩:=hC.form;obtain⟨w4,HW4,B4,HB4,-⟩:=xW w3 [.slice b1 X.nodes.length e1,.slice b2 X.nodes.length e2] 52;have V4:=Za (hv.below HB4.out);have U4:=Za ((V2.below hb3).below HB4.out);have C4:=Za ((C2.below hb3).below HB4.out);have D4:=Za (hC.below HB4.out);have A4:=Za ((B2.below hb3 (nlr _)).below HB4.out (nlr _));have HBb:=Za (Zb (Zb HBa.out hb3) HB4.out);clear hW hC hv hb3 L2 V2 C2 B2 HBa
 go_upto_region 3 with fail
 rw[HW4.out];obtain⟨s0,s1⟩:=A4.c2;obtain⟨t0,t1⟩:=B4.c2
 go_wp2_with fail
 refine(sameWorld_yes _ _ X _ ⟨_,_,_,_,rfl,U4.out⟩ ⟨_,_,_,_,rfl,V4.out⟩).mono ?_;rintro e w5 ⟨rfl,hb5⟩;have C5:=Za (C4.below hb5);have D5:=Za (D4.below hb5);have HBc:=Za (Zb HBb.out hb5)
 have hcl:C.length≤9223372036854775807:=by obtain⟨-,h⟩:=C5.out;rcases h with⟨-,h⟩|⟨g,cap,cur,-,-,-,h1,h2,-⟩ <;> first|omega|(unfold maxLen at h2;omega)
 clear s0 s1 t0 t1 hb5 C4 D4 U4 V4 A4 B4 HBb
 go_wp2_with fail
 go_loopw [44] (fun q wr=>∃i:Nat,i≤C.length∧q=.int .i64 i∧Hid (Below w5.heap.size w5 wr)) (fun q _=>C.length - (intOf q).toNat)
 case atStart=>exact⟨0,Nat.zero_le _,rfl,Za (Below.refl _ _)⟩
 obtain⟨i,hi,rfl,HB6⟩:=hrel;obtain⟨w6,rfl⟩:∃w6,w6=wr:=⟨wr,rfl⟩
 by_cases hlt:i<C.length
 ·have hlt':(i:Int)<(C.length:Int):=by omega
  obtain⟨x,hx⟩:∃x,C[i]? =some x:=⟨_,List.getElem?_eq_getElem hlt⟩;obtain⟨cg,rfl,d0⟩:=(C5.below HB6.out).at hx;obtain⟨dg,rfl,d1⟩:=(D5.below HB6.out).at hx;have HK:=Za fun w' (hg:Zh w6 w')=>And.intro (Yi hg d0) ((Yi hg d1));clear hx d0 d1
  go_upto_region 8 with fail
  refine bD (fun _=>false) (fun _=>True) (Zi _) HK.out fun wd hcd hHeld=>?_;refine yD 0 (.slice (some ⟨cg,0,none⟩) C.length cc) ?_;refine yD 1 (.int .i64 (i:Int)) ?_;refine yD 2 (.pointer (some ⟨cg,i,none⟩)) ?_;refine yD 3 (.int .i64 x) ?_;refine yD 4 (.slice (some ⟨dg,0,none⟩) C.length dc) ?_;refine yD 5 (.int .i64 (i:Int)) ?_;refine yD 6 (.pointer (some ⟨dg,i,none⟩)) ?_;refine yD 7 (.int .i64 x) ?_;refine yD 8 (.bool false) ?_;refine eD ?_;have HB7:=Za (Zb HB6.out hcd);clear HK
  go_wp2_with fail
  go_roundw
  case rel=>exact⟨i+1,by omega,by go_num,HB7⟩
  case measure=>simp[intOf];omega
 have hlt':¬(i:Int)<(C.length:Int):=by omega
 have HB7:=Za (Zb HBc.out HB6.out)
 go_wp2_with fail
 go_ret
 exact⟨rfl,HB7.out⟩
end Go.Proofs.YtfhecilhcofboaaGreat
