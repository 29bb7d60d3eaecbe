/- slices.Delete of one tally, and state.playTallies: what an update does to the tallies. -/
import Derived.Test.YtfhecilhcofboaaGreatStG
namespace Go.Proofs.YtfhecilhcofboaaGreat
open Go.RowKit

set_option maxRecDepth 100000 in
set_option maxHeartbeats 2000000 in
theorem delete_tally(g cap i:Nat)(l:List Tal)(w:World)(h:Zu 108 3 Yb w g cap l)(hi:i<l.length)(hn:l.length≤cap)(hc:cap≤maxLen)(hl:l.length≤1000000):
  Calls Tryz.prog 136 #[.slice (some ⟨g,0,none⟩) l.length cap,.int .i64 i,.int .i64 (i+1)] w fun e w'=>e=.returned (.slice (some ⟨g,0,none⟩) (l.length - 1) cap)∧Zu 108 3 Yb w' g cap (l.eraseIdx i)∧w.grownBy w' (some g):=by
 obtain⟨i0,hi0,hz0,hz1,hz2⟩:=info_parts Tryz.infoTally;have HH:=Za h;clear h;obtain⟨n,HN⟩:∃n,Hid (l.length=n):=⟨_,rfl⟩;rw[HN.out]at hi hn hl ⊢;have hne:¬n=i:=by omega
 have heq:((i:Int)==(i:Int)+1)=false:=beq_eq_false_iff_ne.2 (by omega);have h1:(i:Int)+1≤(n:Int):=by omega
 have h2:(n:Int)≤(cap:Int):=by omega
 have h3:(i:Int)≤(cap:Int):=by omega
 have hw1:IntKind.i64.wrap ((i:Int)+1)=(i:Int)+1:=wrapS (by omega) (by omega)
 go_enter Tryz.func136,Tryz.ntmps136
 obtain⟨news,HNW⟩:∃news,Hid (cellsS Yb (l.drop (i+1))=news):=⟨_,rfl⟩;have s1:Hid (news.length=(n - (i+1))*3):=by unfold Hid;rw[←HNW.out,Zj Zg,List.length_drop,HN.out]
 have s2:Hid (∀u ∈ news,u.oneCell'=true):=by
  intro u hu;rw[←HNW.out]at hu;exact Oe Jc _ u hu
 have s3:Hid (∀j,j<news.length→(w.cell? ⟨g,0+i*3+j,none⟩).isSome=true∧w.frozen? ⟨g,0+i*3+j,none⟩=false):=fun j hj=>by
  rw[s1.out]at hj;exact HH.room (by omega)
 have s4:Hid (∀j u,news[j]? =some u→w.cell? ((⟨g,(i+1)*3,none⟩:Addr).add j)=some u):=fun j u hj=>by
  have hjl:=(List.getElem?_eq_some_iff.1 hj).1;rw[s1.out]at hjl;rw[Uk,HH.cell (by rw[HN.out];omega),←hj,←HNW.out,←Qe Zg,List.getElem?_drop]
 have s5:Hid (Zu 108 3 Yb (w.drew.setCells g (i*3) news) g cap (l.eraseIdx i)∧w.grownBy (w.drew.setCells g (i*3) news) (some g)):=by
  have HD:Zu 108 3 Yb w.drew g cap l:=HH.out;have hgr:=Yh g news (i*3) w.drew;refine⟨HD.put Zg news (l.eraseIdx i) (by rw[s1.out];omega) ?_ (by rw[HN.out];omega),hgr.os,hgr.tape,hgr.output,hgr.size,hgr.block⟩;rw[Ue Zg,←HNW.out,←Xe,List.eraseIdx_eq_take_drop_succ]
 have hsub:i+(n - (i+1))=n - 1:=by omega
 have hA:(i:Int)≤(i:Int)+1:=by omega
 have hB:(0:Int)≤(i:Int)+1:=by omega
 have hC:(i:Int)+1≤(cap:Int):=by omega
 go_upto_region 5 with fail
 go_cut [0] (fun c wx=>c=.slice (some ⟨g,0,none⟩) (n - 1) cap∧Hid (Zu 108 3 Yb wx g cap (l.eraseIdx i))∧Hid (w.grownBy wx (some g)))
 case first=>
  by_cases hcc:cap=i+1
  ·obtain rfl:n=i+1:=by omega
   subst hcc;have s6:Hid (news=[]):=List.eq_nil_of_length_eq_zero (by rw[s1.out];omega);rw[s6.out]at s2 s3 s4 s5
   go_region_law (refine step_append_room rfl (.tmp 22) (.tmp 25) 25 rfl 108 i0 3 Tryz.underlying25 hi0 hz1 g 0 i (i+1) (by simp[Act.eval,Act.put]) ⟨g,0,none⟩ 0 0 [] (by simp[Act.eval,Act.put]) rfl (by intro j u hj;simp at hj) s2.out (by omega) s3.out ?_)
   go_wp2_with fail
   go_meet
   exact⟨by simp,s5.out.1,s5.out.2⟩
  have hcc':¬i+1=cap:=fun e=>hcc e.symm
  go_region_law (refine step_append_room rfl (.tmp 22) (.tmp 25) 25 rfl 108 i0 3 Tryz.underlying25 hi0 hz1 g 0 i cap (by simp[Act.eval,Act.put]) ⟨g,(i+1)*3,none⟩ (n - (i+1)) (cap - (i+1)) news (by simp[Act.eval,Act.put]) s1.out s4.out s2.out (by omega) s3.out ?_)
  go_wp2_with fail
  go_meet
  exact⟨rfl,s5.out.1,s5.out.2⟩
 obtain⟨rfl,H1,H2⟩:=hcut;have HN1:Hid ((l.eraseIdx i).length=n - 1):=by unfold Hid;rw[List.length_eraseIdx,HN.out,if_pos hi]
 obtain⟨Z,hZ,hcl⟩:=run_clear_many (P:=Tryz.prog) wc 25 0 108 i0 _ 3 g ((n - 1)*3) 1 (cap - (n - 1)) Tryz.underlying25 hi0 hz0 rfl (by intro v hv;simp[Value.cells]at hv;subst hv;rfl) (fun j hj=>(H1.room (by omega)).1) (fun j hj=>(H1.room (by omega)).2);have HCL:=Za hcl;have HCUT:=Za (H1.cut Zg (i:=n - 1) Z (by rw[hZ];omega) (by rw[HN1.out];exact nlr _));have e0:Hid ((l.eraseIdx i).take (n - 1)=l.eraseIdx i):=List.take_of_length_le (by rw[HN1.out];exact nlr _);rw[e0.out]at HCUT;have e1:¬cap=n - 1:=by omega
 have e2:((n - 1:Nat):Int)≤(n:Int):=by omega
 have e3:n - (n - 1)=1:=by omega
 clear hcl hZ
 go_wp2_with fail
 rw[HCL.out]
 go_wp2_with fail
 go_ret
 exact⟨rfl,HCUT.out,Zy H2.out (Yh g Z ((n - 1)*3) wc)⟩

theorem addT_at{key a d:Int}:∀{ts:List Tal} {k:Nat},k≤ts.length→Ur ts→(∀(i:Nat) (y:Tal),i<k→ts[i]? =some y→Yr y ⟨key,a,0⟩<0)→(∀(i:Nat) (y:Tal),k≤i→ts[i]? =some y→0≤Yr y ⟨key,a,0⟩)→
  (∀t,ts[k]? =some t→Yr t ⟨key,a,0⟩=0→yP key a d ts=if t.sum+d=0 then ts.eraseIdx k else ts.set k ⟨key,a,t.sum+d⟩)∧
  ((¬∃t,ts[k]? =some t∧Yr t ⟨key,a,0⟩=0)→yP key a d ts=if d=0 then ts else ts.take k++⟨key,a,d⟩::ts.drop k)
 |[],k,hk,_,_,_=>by
  refine⟨fun t ht=>by simp at ht,fun _=>?_⟩
  simp[yP]
 |t::r,0,_,ho,_,h2=>by
  have h3:=h2 0 t (nlr _) rfl;refine⟨fun s hs h0=>?_,fun hno=>?_⟩
  ·simp at hs
   subst hs;rw[cmpT_zero]at h0;rw[yP,if_pos h0]
   simp
  have h4:¬(t.key=key∧t.author=a):=fun h=>hno ⟨t,rfl,cmpT_zero.2 h⟩;have h5:¬Jb t ⟨key,a,0⟩:=fun h=>by have:=Qq.2 h;omega
  unfold Jb at h5
  simp only at h5
  rw[yP,if_neg h4,if_pos (by omega)]
  simp
 |t::r,k+1,hk,ho,h1,h2=>by
  have h3:=Qq.1 (h1 0 t (by omega) rfl);unfold Jb at h3
  simp only at h3
  have h4:¬(t.key=key∧t.author=a):=by omega
  have h5:¬(key<t.key∨(key=t.key∧a<t.author)):=by omega
  obtain⟨i1,i2⟩:=addT_at (key:=key) (a:=a) (d:=d) (ts:=r) (k:=k) (by simpa using hk) (List.pairwise_cons.1 ho).2 (fun i y hi hy=>h1 (i+1) y (by omega) (by simpa using hy)) (fun i y hi hy=>h2 (i+1) y (by omega) (by simpa using hy));refine⟨fun s hs h0=>?_,fun hno=>?_⟩
  ·rw[yP,if_neg h4,if_neg h5,i1 s (by simpa using hs) h0]
   split <;> simp
  rw[yP,if_neg h4,if_neg h5,i2 (fun⟨s,hs,h0⟩=>hno ⟨s,by simpa using hs,h0⟩)]
  split <;> simp
theorem ordT_mono{l:List Tal}(h:Ur l)(x:Tal):∀(i j:Nat) (y z:Tal),i≤j→l[i]? =some y→l[j]? =some z→Yr z x<0→Yr y x<0:=by
 intro i j y z hij hy hz hc
 rcases Nat.lt_or_ge i j with hlt|hge
 ·obtain⟨h1,rfl⟩:=List.getElem?_eq_some_iff.1 hy;obtain⟨h2,rfl⟩:=List.getElem?_eq_some_iff.1 hz;have h3:=List.pairwise_iff_getElem.1 h i j h1 h2 hlt;have h4:=Qq.1 hc;refine Qq.2 ?_;unfold Jb at*;omega
 obtain rfl:i=j:=by omega
 rw[hy]at hz;simp only[Option.some.injEq]at hz;subst hz;exact hc
theorem grown_on{w w1 w2:World}{row:Option Nat}{g:Nat}(h:w.grownBy w1 row)(h':w1.grownBy w2 (some g))(hg:row=some g∨w.heap.size≤g):w.grownBy w2 row:=by
 refine⟨h'.os.trans h.os,h'.tape.trans h.tape,h'.output.trans h.output,Nat.le_trans h.size h'.size,fun k hk hne=>?_⟩;refine(h'.block k (Nat.lt_of_lt_of_le hk h.size) (fun e=>?_)).trans (h.block k hk hne);simp only[Option.some.injEq]at e;subst e
 rcases hg with hg|hg
 ·exact hne hg.symm
 omega
end Go.Proofs.YtfhecilhcofboaaGreat
/- state.playTallies: what an update does to the tallies. -/
namespace Go.Proofs.YtfhecilhcofboaaGreat
open Go.RowKit

theorem cellsT_third{L:List Tal}{k:Nat}{t:Tal}(s:Int)(h:L[k]? =some t):cellsS Yb (L.set k ⟨t.key,t.author,s⟩)=(cellsS Yb L).take (k*3+2)++[.int .i64 s]++(cellsS Yb L).drop (k*3+2+1):=by
 obtain⟨hk,rfl⟩:=List.getElem?_eq_some_iff.1 h;have e1:L.set k ⟨L[k].key,L[k].author,s⟩=L.take k++⟨L[k].key,L[k].author,s⟩::L.drop (k+1):=by rw[List.set_eq_take_append_cons_drop,if_pos hk]
 have e2:cellsS Yb L=cellsS Yb (L.take k)++(Yb L[k]++cellsS Yb (L.drop (k+1))):=by
  have:L=L.take k++L[k]::L.drop (k+1):=by rw[←List.drop_eq_getElem_cons hk,List.take_append_drop]
  rw[congrArg (cellsS Yb) this,Xe];rfl
 have hA:(cellsS Yb (L.take k)).length=k*3:=by rw[Zj Zg,List.length_take,Nat.min_eq_left (by omega)]
 rw[e1,Xe,e2]
 generalize cellsS Yb (L.take k)=A at hA
 rw[List.take_append,List.drop_append,List.take_of_length_le (l:=A) (by omega),List.drop_of_length_le (l:=A) (by omega),hA,show k*3+2 - k*3=2 by omega,show k*3+2+1 - k*3=3 by omega]
 simp[Yb,cellsS]
theorem holdsT3{w:World}{g cap:Nat}{l:List Tal}(h:Zu 108 3 Yb w g cap l){i:Nat}{x:Tal}(hx:l[i]? =some x):
  w.cell? ⟨g,i*3,none⟩=some (.int .i64 x.key)∧w.cell? ⟨g,i*3+1,none⟩=some (.int .i64 x.author)∧w.cell? ⟨g,i*3+2,none⟩=some (.int .i64 x.sum):=
 ⟨h.at Zg hx (j:=0) rfl,h.at Zg hx (j:=1) rfl,h.at Zg hx (j:=2) rfl⟩

set_option maxRecDepth 100000 in
set_option maxHeartbeats 1000000 in
theorem playTallies_fn(v uv:Value)(u:Upd)(ts:List Tal)(w0 w:World)(h0:Jf w0 uv u)(hb0:Below w0.heap.size w0 w)(ho:w.ownsRow w0.heap.size 108 3 v ts.length (cellsS Yb ts))(hord:Ur ts)(hbig:ts.length≤1000)(hsum:∀t ∈ ts,-1000000≤t.sum∧t.sum≤1000000)(hitem:-1000≤u.item∧u.item≤1000):
  Calls Tryz.prog 124 #[v,uv] w fun e w'=>∃v',e=.returned v'∧w'.ownsRow w0.heap.size 108 3 v' (Jt ts u).length (cellsS Yb (Jt ts u))∧w.grownBy w' v.ownBlock:=by
 obtain⟨sv,rfl,-⟩:=h0;have X1:=Za (Box.new w [.int .i64 u.author,sv,.int .i64 u.kind,.int .i64 u.key,.int .i64 u.item] 33);have HG1:Hid (w.grownBy (w.alloc (.cells #[.int .i64 u.author,sv,.int .i64 u.kind,.int .i64 u.key,.int .i64 u.item] 33)) v.ownBlock):=Yg (bpl _ _);have O1:=Za (Zp ho (bpl w (.cells #[.int .i64 u.author,sv,.int .i64 u.kind,.int .i64 u.key,.int .i64 u.item] 33)) (nlr _));have HLT:=Za ho.lt;have hszw:=hb0.size;clear hb0 ho
 by_cases hk:u.kind=5
 ·have hap:Hid (Jt ts u=yP u.key u.author u.item ts):=by unfold Hid Jt;rw[if_pos hk]
  have hk5:(u.kind != 5)=false:=by simp[hk]
  clear hk;have X2:=Za (X1.plus (.cells #[.int .i64 u.key,.int .i64 u.author,.int .i64 0] 108));have HG2:=Za (xX HG1.out (.cells #[.int .i64 u.key,.int .i64 u.author,.int .i64 0] 108));have hbp:=Below.plus (Below.refl (w.alloc (.cells #[.int .i64 u.author,sv,.int .i64 u.kind,.int .i64 u.key,.int .i64 u.item] 33)).heap.size (w.alloc (.cells #[.int .i64 u.author,sv,.int .i64 u.kind,.int .i64 u.key,.int .i64 u.item] 33))) (.cells #[.int .i64 u.key,.int .i64 u.author,.int .i64 0] 108);have O2:=Za (Zp O1.out hbp (nlr _));have F2:=Za (Box.new (w.alloc (.cells #[.int .i64 u.author,sv,.int .i64 u.kind,.int .i64 u.key,.int .i64 u.item] 33)) [.int .i64 u.key,.int .i64 u.author,.int .i64 0] 108);rw[World.size_alloc]at F2;clear X1 HG1 O1 hbp
  go_enter Tryz.func124,Tryz.ntmps124
  go_wp2_with fail
  refine(bsearch_tally v ts ⟨u.key,u.author,0⟩ _ (Zl Zg O2.out) (by omega) (ordT_mono hord _)).mono ?_;rintro e w3 ⟨k,fo,rfl,⟨hq1,hq2,hq3,hfo⟩,hb⟩;obtain⟨ha1,ha2⟩:=addT_at (d:=u.item) hq1 hord hq2 hq3;have O3:=Za (Zp O2.out hb (nlr _));have X3:=Za (X2.below hb (nlr _));have F3:=Za (F2.below hb (nlr _));have HG3:Hid (w.grownBy w3 v.ownBlock):=Zy HG2.out (Yg hb);have hsz3:Hid (w.heap.size≤w3.heap.size):=HG3.size;have HA1:=Za ha1;have HA2:=Za ha2;have HFO:=Za hfo;have HS:=Za hsum;clear hb O2 X2 F2 HG2 hq2 hq3 ha1 ha2 hfo hsum hord
  go_upto_if 24 with fail
  go_cut [0] (fun c wx=>∃(cv:Value) (L:List Tal) (t:Tal),c=cv∧Hid (wx.ownsRow w0.heap.size 108 3 cv L.length (cellsS Yb L))∧Hid (L[k]? =some t)∧Hid (t.key=u.key∧t.author=u.author∧-1000000≤t.sum∧t.sum≤1000000)∧Hid (yP u.key u.author u.item ts=if t.sum+u.item=0 then L.eraseIdx k else L.set k ⟨u.key,u.author,t.sum+u.item⟩)∧Hid (L.length≤1001)∧Hid (w.grownBy wx v.ownBlock)∧Hid (∀g,cv.ownBlock=some g→v.ownBlock=some g∨w.heap.size≤g)∧Hid (Box wx w.heap.size [.int .i64 u.author,sv,.int .i64 u.kind,.int .i64 u.key,.int .i64 u.item] 33))
  case first=>
   cases fo
   ·have HNO:Hid (¬∃t,ts[k]? =some t∧Yr t ⟨u.key,u.author,0⟩=0):=fun h=>by have:=HFO.2 h;cases this
    obtain⟨c0,c1,c2⟩:=F3.c3;have O4:=Za (Zp O3.out (bpl w3 (.cells #[.int .i64 u.key,.int .i64 u.author,.int .i64 0] 108)) (nlr _));have V4:=Za (Box.new w3 [.int .i64 u.key,.int .i64 u.author,.int .i64 0] 108);have X4:=Za (X3.plus (.cells #[.int .i64 u.key,.int .i64 u.author,.int .i64 0] 108));have HG4:=Za (xX HG3.out (.cells #[.int .i64 u.key,.int .i64 u.author,.int .i64 0] 108));have hne:Hid (∀g,v.ownBlock=some g→w3.heap.size≠g):=fun g hg=>by have:=(O3.lt g hg).2;omega
    go_wp2_with fail
    refine(insert_tally w0.heap.size v k ts ⟨u.key,u.author,0⟩ w3.heap.size _ O4.out V4.out hne.out (by have:=hsz3.out;rw[World.size_alloc];omega) hq1 (by omega)).mono ?_;rintro e w5 ⟨v5,rfl,ho5,hg5,hat5⟩;have hl5:(ts.take k++(⟨u.key,u.author,0⟩:Tal)::ts.drop k).length=ts.length+1:=by rw[List.length_append,List.length_cons,List.length_take,List.length_drop];omega
    have HL5:=Za hl5;have O5:Hid (w5.ownsRow w0.heap.size 108 3 v5 (ts.take k++(⟨u.key,u.author,0⟩:Tal)::ts.drop k).length (cellsS Yb (ts.take k++(⟨u.key,u.author,0⟩:Tal)::ts.drop k))):=by rw[hl5];exact ho5
    have HG5:Hid (w.grownBy w5 v.ownBlock):=Zy HG4.out hg5;have X5:=Za (X4.grownT O4.out hg5 (by decide))
    have HAT:Hid (∀g,v5.ownBlock=some g→v.ownBlock=some g∨w.heap.size≤g):=fun g hg=>by
     rcases hat5 with h|h
     ·exact .inl (by rw[←h];exact hg)
     rw[h,World.size_alloc]at hg;simp only[Option.some.injEq]at hg;have:=hsz3.out;exact .inr (by omega)
    clear ho5 hg5 hat5 hl5 c0 c1 c2 O3 X3 F3 HG3 O4 V4 X4 HG4 hne
    go_wp2_with fail
    go_meet
    refine⟨v5,ts.take k++(⟨u.key,u.author,0⟩:Tal)::ts.drop k,⟨u.key,u.author,0⟩,rfl,O5,Za ?_,Za ⟨rfl,rfl,by simp,by simp⟩,Za ?_,Za (by rw[HL5.out];omega),HG5,HAT,X5⟩
    ·rw[List.getElem?_append_right (by rw[List.length_take];omega),List.length_take,Nat.min_eq_left hq1,Nat.sub_self];rfl
    rw[HA2.out HNO.out];simp only[Int.zero_add];have hlt:(ts.take k).length=k:=by rw[List.length_take,Nat.min_eq_left hq1]
    split
    ·rw[List.eraseIdx_append_of_length_le (by omega),hlt,Nat.sub_self]
     simp
    rw[List.set_append_right _ _ (by omega),hlt,Nat.sub_self]
    simp
   obtain⟨t,ht,h0⟩:=HFO.1 rfl;have HT:=Za ht;have H0:=Za h0;have HA:=Za (HA1.out t ht h0);clear ht h0
   go_wp2_with fail
   go_meet
   refine⟨v,ts,t,rfl,O3,HT,Za ?_,HA,Za (by omega),HG3,Za (fun g hg=>.inl hg),X3⟩;have:=cmpT_zero.1 H0.out;exact⟨this.1,this.2,HS.out t (List.mem_of_getElem? HT.out)⟩
  obtain⟨cv,L,t,rfl,O5,HT,HTB,HA,HLL,HG5,HAT,X5⟩:=hcut;obtain⟨w5,rfl⟩:∃w5,w5=wc:=⟨wc,rfl⟩;clear O3 X3 F3 HG3 HA1 HA2 HFO HS
  rcases Qj O5.out with⟨rfl,rfl⟩|⟨g,cap,rfl,hgB,hh,hn,hm⟩
  ·have:=HT.out
   simp at this
  have hkl:k<L.length:=(List.getElem?_eq_some_iff.1 HT.out).1;have hll:=HLL.out;obtain⟨hb1,hb2,hb3,hb4⟩:=HTB.out;have hw:IntKind.i64.wrap (t.sum+u.item)=t.sum+u.item:=wrapS (by omega) (by omega);have hw1:IntKind.i64.wrap ((k:Int)+1)=(k:Int)+1:=wrapS (by omega) (by omega);have HG:Hid (v.ownBlock=some g∨w.heap.size≤g):=HAT.out g rfl
  have H6:Hid (Zu 108 3 Yb (w5.drew.setCell ⟨g,k*3+2,none⟩ (.int .i64 (t.sum+u.item))) g cap (L.set k ⟨u.key,u.author,t.sum+u.item⟩)):=by
   have hd:Zu 108 3 Yb w5.drew g cap L:=hh;have:=hd.splice (o:=k*3+2) [.int .i64 (t.sum+u.item)] (L.set k ⟨t.key,t.author,t.sum+u.item⟩) (by simp) hn (by simp;omega) (cellsT_third _ HT.out);rw[hb1,hb2]at this;exact this
  have HG6:Hid (w.grownBy (w5.drew.setCell ⟨g,k*3+2,none⟩ (.int .i64 (t.sum+u.item))) v.ownBlock):=by
   have a1:=Xv w5.drew g (k*3+2) (.int .i64 (t.sum+u.item));exact grown_on HG5.out ⟨a1.os,a1.tape,a1.output,a1.size,a1.block⟩ HG.out
  have HT6:Hid ((L.set k ⟨u.key,u.author,t.sum+u.item⟩)[k]? =some ⟨u.key,u.author,t.sum+u.item⟩):=by unfold Hid;rw[List.getElem?_set_self hkl]
  have HL6:Hid ((L.set k (⟨u.key,u.author,t.sum+u.item⟩:Tal)).length=L.length):=List.length_set;obtain⟨n,HN⟩:∃n,Hid (L.length=n):=⟨_,rfl⟩;obtain⟨d0,d1,d2⟩:=holdsT3 hh HT.out;obtain⟨e0,e1,e2⟩:=holdsT3 H6.out HT6.out;have f2:=hh.free (k*3+2);have x4:=X5.get 4 rfl;have hkn:(k:Int)<(L.length:Int):=by omega
  have hk0:(0:Int)≤(k:Int):=by omega
  clear d0 d1 e0 e1 hb1 hb2 hb3 hb4 hh
  go_upto_region 7 with fail
  go_region
  by_cases hz:t.sum+u.item=0
  ·have hz':((t.sum+u.item)==0)=true:=by simp[hz]
   rw[if_pos hz]at HA;have HZ:=Za hz;clear hz;have hd:=delete_tally g cap k (L.set k ⟨u.key,u.author,t.sum+u.item⟩) _ H6.out (by rw[HL6.out];exact hkl) (by rw[HL6.out];exact hn) hm (by rw[HL6.out];omega);rw[HL6.out]at hd;have HD:=Za hd;have HE:Hid ((L.set k (⟨u.key,u.author,t.sum+u.item⟩:Tal)).eraseIdx k=L.eraseIdx k):=by unfold Hid;rw[List.eraseIdx_set_eq]
   rw[HE.out]at HD;have HL7:Hid ((L.eraseIdx k).length=L.length - 1):=by unfold Hid;rw[List.length_eraseIdx,if_pos hkl]
   clear hd
   go_wp2_with fail
   refine HD.mono ?_;rintro e w7 ⟨rfl,h7,hg7⟩;have H7:=Za h7;have HG7:Hid (w.grownBy w7 v.ownBlock):=grown_on HG6.out hg7 HG.out;clear h7 hg7 HD e2
   go_wp2_with fail
   go_ret
   refine⟨_,rfl,?_,HG7.out⟩;rw[hap.out,HA.out,HL7.out];have:=H7.own Zg hgB (by rw[HL7.out];omega) hm;rw[HL7.out]at this;exact this
  have hz':((t.sum+u.item)==0)=false:=by simp[hz]
  rw[if_neg hz]at HA;have HZ:=Za hz;clear hz
  go_wp2_with fail
  go_ret
  refine⟨_,rfl,?_,HG6.out⟩;rw[hap.out,HA.out,HL6.out];have:=H6.own Zg hgB (by rw[HL6.out];exact hn) hm;rw[HL6.out]at this;exact this
 have hk5:(u.kind != 5)=true:=by simp[hk]
 have hap:Hid (Jt ts u=ts):=by unfold Hid Jt;rw[if_neg hk]
 clear hk
 go_enter Tryz.func124,Tryz.ntmps124
 go_wp2_with fail
 go_ret
 refine⟨_,rfl,?_,HG1.out⟩;rw[hap.out];exact O1.out
end Go.Proofs.YtfhecilhcofboaaGreat
