/- slices.BinarySearchFunc over lives and over tallies, by the program's own order. -/
import Derived.Test.YtfhecilhcofboaaGreatDelF
import Derived.Lib.SlBuf
import Derived.Shelf.Spec.SlicesInsert
namespace Go.Proofs.YtfhecilhcofboaaGreat
open Go.RowKit

set_option maxRecDepth 100000 in
set_option maxHeartbeats 2000000 in
theorem bsearch_live(v:Value)(l:List Zk)(x:Zk)(w:World)(hl:Yf 5 Zv w v l)(hbig:l.length≤4000000000)(hmono:∀(i j:Nat) (y z:Zk),i≤j→l[i]? =some y→l[j]? =some z→Yj z x<0→Yj y x<0):
  Calls Tryz.prog 132 #[v,.agg #[.bool x.set,.int .i64 x.key,.int .i64 x.item,.int .i64 x.author,.int .i64 x.seq],.func (Fn.func 66) #[] #[]] w fun e w'=>∃(k:Nat) (fo:Bool),e=.returned (.tuple #[.int .i64 k,.bool fo])∧(k≤l.length∧(∀(i:Nat) (y:Zk),i<k→l[i]? =some y→Yj y x<0)∧(∀(i:Nat) (y:Zk),k≤i→l[i]? =some y→0≤Yj y x)∧(fo=true↔∃y,l[k]? =some y∧Yj y x=0))∧Below w.heap.size w w':=by
 obtain⟨a,cap,rfl,-,-,-⟩:=id hl;obtain⟨W0,HW0⟩:∃W0,Hid (w.alloc (.cells #[.bool x.set,.int .i64 x.key,.int .i64 x.item,.int .i64 x.author,.int .i64 x.seq] 106)=W0):=⟨_,rfl⟩;have HB:Hid (Below w.heap.size w W0):=by rw[←HW0.out];exact bpl w _
 have HX:Hid (Box W0 w.heap.size [.bool x.set,.int .i64 x.key,.int .i64 x.item,.int .i64 x.author,.int .i64 x.seq] 106):=by rw[←HW0.out];exact Box.new w _ _
 obtain⟨g0,HG0⟩:∃g0,Hid (w.heap.size=g0):=⟨_,rfl⟩;rw[HG0.out]at HX;have HL:=Za (hl.below HB.out (nlr _));have HM:=Za hmono
 have HCM:Hid (∀(y:Zk) w',Zh W0 w'→Calls Tryz.prog 66 #[.agg #[.bool y.set,.int .i64 y.key,.int .i64 y.item,.int .i64 y.author,.int .i64 y.seq],.agg #[.bool x.set,.int .i64 x.key,.int .i64 x.item,.int .i64 x.author,.int .i64 x.seq]] w' fun e w''=>e=.returned (.int .i64 (Yj y x))∧Zh W0 w''):=fun y w' hg=>by
  refine(compareLives_fn y x w').mono ?_;rintro e w'' ⟨rfl,hb⟩;exact⟨rfl,Zd hg hb⟩
 clear hl hmono;obtain⟨n,HN⟩:∃n,Hid (l.length=n):=⟨_,rfl⟩;rw[HN.out]at hbig ⊢
 go_enter Tryz.func132,Tryz.ntmps132
 go_wp2_with fail
 rw[HW0.out,HG0.out]
 go_loopw [9,10] (fun i j wr=>∃lo hi:Nat,i=.int .i64 lo∧j=.int .i64 hi∧lo≤hi∧hi≤n∧Hid (∀(i:Nat) (y:Zk),i<lo→l[i]? =some y→Yj y x<0)∧Hid (∀(i:Nat) (y:Zk),hi≤i→l[i]? =some y→0≤Yj y x)∧Hid (Zh W0 wr)) (fun i j _=>(intOf j).toNat - (intOf i).toNat)
 case atStart=>exact⟨0,n,rfl,rfl,Nat.zero_le _,nlr _,Za (fun i y h=>by omega),Za (fun i y h h2=>by have:=(List.getElem?_eq_some_iff.1 h2).1;rw[HN.out]at this;omega),Za (Zi _)⟩
 obtain⟨lo,hi,rfl,rfl,hlh,hin,H1,H2,HGR⟩:=hrel;obtain⟨w0,rfl⟩:∃w0,w0=wr:=⟨wr,rfl⟩
 by_cases hlt:lo<hi
 ·obtain⟨m,Hm⟩:∃m,Hid ((lo+hi) / 2=m):=⟨_,rfl⟩;have hm1:lo≤m:=by rw[←Hm.out];omega
  have hm2:m<hi:=by rw[←Hm.out];omega
  have hmI:((lo:Int)+(hi:Int)) / 2=(m:Int):=by rw[←Hm.out];omega
  obtain⟨y,hy⟩:∃y,l[m]? =some y:=⟨_,List.getElem?_eq_getElem (by rw[HN.out];omega)⟩;obtain⟨b,off,rfl,-⟩:=Va HL.out hy;obtain⟨q,HQ⟩:∃q,Hid (Yj y x=q):=⟨_,rfl⟩
  have HK:Hid (∀w',Zh W0 w'→(w'.cell? ⟨g0,0,none⟩=some (.bool x.set)∧w'.cell? ⟨g0,1,none⟩=some (.int .i64 x.key)∧w'.cell? ⟨g0,2,none⟩=some (.int .i64 x.item)∧w'.cell? ⟨g0,3,none⟩=some (.int .i64 x.author)∧w'.cell? ⟨g0,4,none⟩=some (.int .i64 x.seq))∧(w'.cell? ⟨b,off+m*5,none⟩=some (.bool y.set)∧w'.cell? ⟨b,off+m*5+1,none⟩=some (.int .i64 y.key)∧w'.cell? ⟨b,off+m*5+2,none⟩=some (.int .i64 y.item)∧w'.cell? ⟨b,off+m*5+3,none⟩=some (.int .i64 y.author)∧w'.cell? ⟨b,off+m*5+4,none⟩=some (.int .i64 y.seq))):=fun w' hg=>by
   have h:=HX.below hg (nlr _);obtain⟨b2,off2,hbb,hcs⟩:=Va (HL.below hg (nlr _)) hy;simp only[Option.some.injEq,Addr.mk.injEq,and_true]at hbb;obtain⟨rfl,rfl⟩:=hbb;exact⟨⟨h.get 0 rfl,h.get 1 rfl,h.get 2 rfl,h.get 3 rfl,h.get 4 rfl⟩,hcs⟩
  have HC:=Za (HCM.out y);rw[HQ.out]at HC;have hgr:=HGR.out;have hmn:(m:Int)<(n:Int):=by omega
  have hm0:(0:Int)≤(m:Int):=by omega
  have hlt':(lo:Int)<(hi:Int):=by omega
  go_upto_region 5 with fail
  go_cut [31] (fun c wx=>c=.bool (decide (q<0))∧Hid (Zh W0 wx))
  case first=>
   go_region_held3 (fun w'=>(w'.cell? ⟨g0,0,none⟩=some (.bool x.set)∧w'.cell? ⟨g0,1,none⟩=some (.int .i64 x.key)∧w'.cell? ⟨g0,2,none⟩=some (.int .i64 x.item)∧w'.cell? ⟨g0,3,none⟩=some (.int .i64 x.author)∧w'.cell? ⟨g0,4,none⟩=some (.int .i64 x.seq))∧(w'.cell? ⟨b,off+m*5,none⟩=some (.bool y.set)∧w'.cell? ⟨b,off+m*5+1,none⟩=some (.int .i64 y.key)∧w'.cell? ⟨b,off+m*5+2,none⟩=some (.int .i64 y.item)∧w'.cell? ⟨b,off+m*5+3,none⟩=some (.int .i64 y.author)∧w'.cell? ⟨b,off+m*5+4,none⟩=some (.int .i64 y.seq)))
    ((refine HK.out _ ?_;(first|assumption|exact Zf (by assumption))))
    (first|(go_at_call 66;refine(HC.out _ ?_).mono ?_;(first|assumption|exact Zf (by assumption));rintro e w' ⟨rfl,hgr2⟩))
   all_goals (go_wp2_with fail;go_meet;exact⟨by simp,by assumption⟩)
  obtain⟨rfl,HGR2⟩:=hcut
  by_cases hq:q<0
  ·have hqd:decide (q<0)=true:=by simp[hq]
   rw[hqd];clear hqd
   go_wp2_with fail
   go_roundw
   case rel=>exact⟨m+1,hi,by go_num,rfl,by omega,hin,Za (fun i z h1 h2=>HM.out i m z y (by omega) h2 hy (by rw[HQ.out];exact hq)),H2,HGR2⟩
   case measure=>simp[intOf];omega
  have hqd:decide (q<0)=false:=by simp;omega
  rw[hqd];clear hqd
  go_wp2_with fail
  go_roundw
  case rel=>exact⟨lo,m,rfl,rfl,by omega,by omega,H1,Za (fun i z h1 h2=>Int.not_lt.1 (fun h3=>hq (by rw[←HQ.out];exact HM.out m i y z h1 hy h2 h3))),HGR2⟩
  case measure=>simp[intOf];omega
 obtain rfl:hi=lo:=by omega
 have hgr:=HGR.out
 by_cases hn:hi<n
 ·obtain⟨y,hy⟩:∃y,l[hi]? =some y:=⟨_,List.getElem?_eq_getElem (by rw[HN.out];omega)⟩;obtain⟨m,Hm⟩:∃m,Hid (hi=m):=⟨_,rfl⟩;obtain⟨b,off,rfl,-⟩:=Va HL.out hy;obtain⟨q,HQ⟩:∃q,Hid (Yj y x=q):=⟨_,rfl⟩
  have HK:Hid (∀w',Zh W0 w'→(w'.cell? ⟨g0,0,none⟩=some (.bool x.set)∧w'.cell? ⟨g0,1,none⟩=some (.int .i64 x.key)∧w'.cell? ⟨g0,2,none⟩=some (.int .i64 x.item)∧w'.cell? ⟨g0,3,none⟩=some (.int .i64 x.author)∧w'.cell? ⟨g0,4,none⟩=some (.int .i64 x.seq))∧(w'.cell? ⟨b,off+m*5,none⟩=some (.bool y.set)∧w'.cell? ⟨b,off+m*5+1,none⟩=some (.int .i64 y.key)∧w'.cell? ⟨b,off+m*5+2,none⟩=some (.int .i64 y.item)∧w'.cell? ⟨b,off+m*5+3,none⟩=some (.int .i64 y.author)∧w'.cell? ⟨b,off+m*5+4,none⟩=some (.int .i64 y.seq))):=fun w' hg=>by
   have h:=HX.below hg (nlr _);obtain⟨b2,off2,hbb,hcs⟩:=Va (HL.below hg (nlr _)) hy;simp only[Option.some.injEq,Addr.mk.injEq,and_true]at hbb;obtain⟨rfl,rfl⟩:=hbb;rw[Hm.out]at hcs;exact⟨⟨h.get 0 rfl,h.get 1 rfl,h.get 2 rfl,h.get 3 rfl,h.get 4 rfl⟩,hcs⟩
  have HC:=Za (HCM.out y);rw[HQ.out]at HC;have hmd:Hid (hi=m):=Hm;rw[Hm.out]at hn hy H1 H2 ⊢;have hmn:(m:Int)<(n:Int):=by omega
  have hm0:(0:Int)≤(m:Int):=by omega
  have hd:decide (m<n)=true:=by simp;omega
  go_upto_region 8 with fail
  go_region_held3 (fun w'=>(w'.cell? ⟨g0,0,none⟩=some (.bool x.set)∧w'.cell? ⟨g0,1,none⟩=some (.int .i64 x.key)∧w'.cell? ⟨g0,2,none⟩=some (.int .i64 x.item)∧w'.cell? ⟨g0,3,none⟩=some (.int .i64 x.author)∧w'.cell? ⟨g0,4,none⟩=some (.int .i64 x.seq))∧(w'.cell? ⟨b,off+m*5,none⟩=some (.bool y.set)∧w'.cell? ⟨b,off+m*5+1,none⟩=some (.int .i64 y.key)∧w'.cell? ⟨b,off+m*5+2,none⟩=some (.int .i64 y.item)∧w'.cell? ⟨b,off+m*5+3,none⟩=some (.int .i64 y.author)∧w'.cell? ⟨b,off+m*5+4,none⟩=some (.int .i64 y.seq)))
   ((refine HK.out _ ?_;(first|assumption|exact Zf (by assumption))))
   (first|(go_at_call 66;refine(HC.out _ ?_).mono ?_;(first|assumption|exact Zf (by assumption));rintro e w' ⟨rfl,hgr2⟩))
  all_goals
   go_wp2_with fail
   go_ret2
   refine⟨m,q==0,by simp,⟨by omega,H1.out,H2.out,?_⟩,Zb HB.out (by assumption)⟩;rw[beq_iff_eq,←HQ.out]
   constructor
   ·intro h0;exact⟨y,hy,h0⟩
   rintro⟨y',h1,h2⟩;rw[hy]at h1;simp only[Option.some.injEq]at h1;subst h1;exact h2
 have hd:decide (hi<n)=false:=by simp;omega
 go_upto_region 8 with fail
 refine wp_region_held_drew (S:=fun w'=>Zh W0 w') (by kernel_rfl) (Zf hgr) (fun hHeld=>?_);refine ty 0 (.int .i64 (hi:Int)) ?_;refine ty 1 (.int .i64 (hi:Int)) ?_;refine ty 2 (.int .i64 (n:Int)) ?_;refine ty 3 (.bool false) ?_;refine ty 4 (.bool false) ?_;refine ts 5 ?_;refine ts 6 ?_;refine ts 7 ?_;refine ts 8 ?_;refine ts 9 ?_;refine ts 10 ?_;refine ts 11 ?_;refine ts 12 ?_;refine ty 13 (.bool false) ?_;refine ty 14 (.int .i64 (hi:Int)) ?_;refine ty 15 (.bool false) ?_;refine wpAnyH_done (by kernel_rfl) ?_ _
 go_wp2_with fail
 go_ret2
 refine⟨hi,false,by simp,⟨by omega,H1.out,H2.out,?_⟩,Zb HB.out (Zf hgr)⟩
 constructor
 ·intro h0
  cases h0
 rintro⟨y',h1,h2⟩;have:=(List.getElem?_eq_some_iff.1 h1).1;rw[HN.out]at this;exact absurd this hn
set_option maxRecDepth 100000 in
set_option maxHeartbeats 2000000 in
theorem bsearch_tally(v:Value)(l:List Tal)(x:Tal)(w:World)(hl:Yf 3 Yb w v l)(hbig:l.length≤4000000000)(hmono:∀(i j:Nat) (y z:Tal),i≤j→l[i]? =some y→l[j]? =some z→Yr z x<0→Yr y x<0):
  Calls Tryz.prog 134 #[v,.agg #[.int .i64 x.key,.int .i64 x.author,.int .i64 x.sum],.func (Fn.func 70) #[] #[]] w fun e w'=>∃(k:Nat) (fo:Bool),e=.returned (.tuple #[.int .i64 k,.bool fo])∧(k≤l.length∧(∀(i:Nat) (y:Tal),i<k→l[i]? =some y→Yr y x<0)∧(∀(i:Nat) (y:Tal),k≤i→l[i]? =some y→0≤Yr y x)∧(fo=true↔∃y,l[k]? =some y∧Yr y x=0))∧Below w.heap.size w w':=by
 obtain⟨a,cap,rfl,-,-,-⟩:=id hl;obtain⟨W0,HW0⟩:∃W0,Hid (w.alloc (.cells #[.int .i64 x.key,.int .i64 x.author,.int .i64 x.sum] 108)=W0):=⟨_,rfl⟩;have HB:Hid (Below w.heap.size w W0):=by rw[←HW0.out];exact bpl w _
 have HX:Hid (Box W0 w.heap.size [.int .i64 x.key,.int .i64 x.author,.int .i64 x.sum] 108):=by rw[←HW0.out];exact Box.new w _ _
 obtain⟨g0,HG0⟩:∃g0,Hid (w.heap.size=g0):=⟨_,rfl⟩;rw[HG0.out]at HX;have HL:=Za (hl.below HB.out (nlr _));have HM:=Za hmono
 have HCM:Hid (∀(y:Tal) w',Zh W0 w'→Calls Tryz.prog 70 #[.agg #[.int .i64 y.key,.int .i64 y.author,.int .i64 y.sum],.agg #[.int .i64 x.key,.int .i64 x.author,.int .i64 x.sum]] w' fun e w''=>e=.returned (.int .i64 (Yr y x))∧Zh W0 w''):=fun y w' hg=>by
  refine(yH y x w').mono ?_;rintro e w'' ⟨rfl,hb⟩;exact⟨rfl,Zd hg hb⟩
 clear hl hmono;obtain⟨n,HN⟩:∃n,Hid (l.length=n):=⟨_,rfl⟩;rw[HN.out]at hbig ⊢
 go_enter Tryz.func134,Tryz.ntmps134
 go_wp2_with fail
 rw[HW0.out,HG0.out]
 go_loopw [9,10] (fun i j wr=>∃lo hi:Nat,i=.int .i64 lo∧j=.int .i64 hi∧lo≤hi∧hi≤n∧Hid (∀(i:Nat) (y:Tal),i<lo→l[i]? =some y→Yr y x<0)∧Hid (∀(i:Nat) (y:Tal),hi≤i→l[i]? =some y→0≤Yr y x)∧Hid (Zh W0 wr)) (fun i j _=>(intOf j).toNat - (intOf i).toNat)
 case atStart=>exact⟨0,n,rfl,rfl,Nat.zero_le _,nlr _,Za (fun i y h=>by omega),Za (fun i y h h2=>by have:=(List.getElem?_eq_some_iff.1 h2).1;rw[HN.out]at this;omega),Za (Zi _)⟩
 obtain⟨lo,hi,rfl,rfl,hlh,hin,H1,H2,HGR⟩:=hrel;obtain⟨w0,rfl⟩:∃w0,w0=wr:=⟨wr,rfl⟩
 by_cases hlt:lo<hi
 ·obtain⟨m,Hm⟩:∃m,Hid ((lo+hi) / 2=m):=⟨_,rfl⟩;have hm1:lo≤m:=by rw[←Hm.out];omega
  have hm2:m<hi:=by rw[←Hm.out];omega
  have hmI:((lo:Int)+(hi:Int)) / 2=(m:Int):=by rw[←Hm.out];omega
  obtain⟨y,hy⟩:∃y,l[m]? =some y:=⟨_,List.getElem?_eq_getElem (by rw[HN.out];omega)⟩;obtain⟨b,off,rfl,-⟩:=Jy HL.out hy;obtain⟨q,HQ⟩:∃q,Hid (Yr y x=q):=⟨_,rfl⟩
  have HK:Hid (∀w',Zh W0 w'→(w'.cell? ⟨g0,0,none⟩=some (.int .i64 x.key)∧w'.cell? ⟨g0,1,none⟩=some (.int .i64 x.author)∧w'.cell? ⟨g0,2,none⟩=some (.int .i64 x.sum))∧(w'.cell? ⟨b,off+m*3,none⟩=some (.int .i64 y.key)∧w'.cell? ⟨b,off+m*3+1,none⟩=some (.int .i64 y.author)∧w'.cell? ⟨b,off+m*3+2,none⟩=some (.int .i64 y.sum))):=fun w' hg=>by
   have h:=HX.below hg (nlr _);obtain⟨b2,off2,hbb,hcs⟩:=Jy (HL.below hg (nlr _)) hy;simp only[Option.some.injEq,Addr.mk.injEq,and_true]at hbb;obtain⟨rfl,rfl⟩:=hbb;exact⟨⟨h.get 0 rfl,h.get 1 rfl,h.get 2 rfl⟩,hcs⟩
  have HC:=Za (HCM.out y);rw[HQ.out]at HC;have hgr:=HGR.out;have hmn:(m:Int)<(n:Int):=by omega
  have hm0:(0:Int)≤(m:Int):=by omega
  have hlt':(lo:Int)<(hi:Int):=by omega
  go_upto_region 5 with fail
  go_cut [31] (fun c wx=>c=.bool (decide (q<0))∧Hid (Zh W0 wx))
  case first=>
   go_region_held3 (fun w'=>(w'.cell? ⟨g0,0,none⟩=some (.int .i64 x.key)∧w'.cell? ⟨g0,1,none⟩=some (.int .i64 x.author)∧w'.cell? ⟨g0,2,none⟩=some (.int .i64 x.sum))∧(w'.cell? ⟨b,off+m*3,none⟩=some (.int .i64 y.key)∧w'.cell? ⟨b,off+m*3+1,none⟩=some (.int .i64 y.author)∧w'.cell? ⟨b,off+m*3+2,none⟩=some (.int .i64 y.sum)))
    ((refine HK.out _ ?_;(first|assumption|exact Zf (by assumption))))
    (first|(go_at_call 70;refine(HC.out _ ?_).mono ?_;(first|assumption|exact Zf (by assumption));rintro e w' ⟨rfl,hgr2⟩))
   all_goals (go_wp2_with fail;go_meet;exact⟨by simp,by assumption⟩)
  obtain⟨rfl,HGR2⟩:=hcut
  by_cases hq:q<0
  ·have hqd:decide (q<0)=true:=by simp[hq]
   rw[hqd];clear hqd
   go_wp2_with fail
   go_roundw
   case rel=>exact⟨m+1,hi,by go_num,rfl,by omega,hin,Za (fun i z h1 h2=>HM.out i m z y (by omega) h2 hy (by rw[HQ.out];exact hq)),H2,HGR2⟩
   case measure=>simp[intOf];omega
  have hqd:decide (q<0)=false:=by simp;omega
  rw[hqd];clear hqd
  go_wp2_with fail
  go_roundw
  case rel=>exact⟨lo,m,rfl,rfl,by omega,by omega,H1,Za (fun i z h1 h2=>Int.not_lt.1 (fun h3=>hq (by rw[←HQ.out];exact HM.out m i y z h1 hy h2 h3))),HGR2⟩
  case measure=>simp[intOf];omega
 obtain rfl:hi=lo:=by omega
 have hgr:=HGR.out
 by_cases hn:hi<n
 ·obtain⟨y,hy⟩:∃y,l[hi]? =some y:=⟨_,List.getElem?_eq_getElem (by rw[HN.out];omega)⟩;obtain⟨m,Hm⟩:∃m,Hid (hi=m):=⟨_,rfl⟩;obtain⟨b,off,rfl,-⟩:=Jy HL.out hy;obtain⟨q,HQ⟩:∃q,Hid (Yr y x=q):=⟨_,rfl⟩
  have HK:Hid (∀w',Zh W0 w'→(w'.cell? ⟨g0,0,none⟩=some (.int .i64 x.key)∧w'.cell? ⟨g0,1,none⟩=some (.int .i64 x.author)∧w'.cell? ⟨g0,2,none⟩=some (.int .i64 x.sum))∧(w'.cell? ⟨b,off+m*3,none⟩=some (.int .i64 y.key)∧w'.cell? ⟨b,off+m*3+1,none⟩=some (.int .i64 y.author)∧w'.cell? ⟨b,off+m*3+2,none⟩=some (.int .i64 y.sum))):=fun w' hg=>by
   have h:=HX.below hg (nlr _);obtain⟨b2,off2,hbb,hcs⟩:=Jy (HL.below hg (nlr _)) hy;simp only[Option.some.injEq,Addr.mk.injEq,and_true]at hbb;obtain⟨rfl,rfl⟩:=hbb;rw[Hm.out]at hcs;exact⟨⟨h.get 0 rfl,h.get 1 rfl,h.get 2 rfl⟩,hcs⟩
  have HC:=Za (HCM.out y);rw[HQ.out]at HC;have hmd:Hid (hi=m):=Hm;rw[Hm.out]at hn hy H1 H2 ⊢;have hmn:(m:Int)<(n:Int):=by omega
  have hm0:(0:Int)≤(m:Int):=by omega
  have hd:decide (m<n)=true:=by simp;omega
  go_upto_region 8 with fail
  go_region_held3 (fun w'=>(w'.cell? ⟨g0,0,none⟩=some (.int .i64 x.key)∧w'.cell? ⟨g0,1,none⟩=some (.int .i64 x.author)∧w'.cell? ⟨g0,2,none⟩=some (.int .i64 x.sum))∧(w'.cell? ⟨b,off+m*3,none⟩=some (.int .i64 y.key)∧w'.cell? ⟨b,off+m*3+1,none⟩=some (.int .i64 y.author)∧w'.cell? ⟨b,off+m*3+2,none⟩=some (.int .i64 y.sum)))
   ((refine HK.out _ ?_;(first|assumption|exact Zf (by assumption))))
   (first|(go_at_call 70;refine(HC.out _ ?_).mono ?_;(first|assumption|exact Zf (by assumption));rintro e w' ⟨rfl,hgr2⟩))
  all_goals
   go_wp2_with fail
   go_ret2
   refine⟨m,q==0,by simp,⟨by omega,H1.out,H2.out,?_⟩,Zb HB.out (by assumption)⟩;rw[beq_iff_eq,←HQ.out]
   constructor
   ·intro h0;exact⟨y,hy,h0⟩
   rintro⟨y',h1,h2⟩;rw[hy]at h1;simp only[Option.some.injEq]at h1;subst h1;exact h2
 have hd:decide (hi<n)=false:=by simp;omega
 go_upto_region 8 with fail
 refine wp_region_held_drew (S:=fun w'=>Zh W0 w') (by kernel_rfl) (Zf hgr) (fun hHeld=>?_);refine ty 0 (.int .i64 (hi:Int)) ?_;refine ty 1 (.int .i64 (hi:Int)) ?_;refine ty 2 (.int .i64 (n:Int)) ?_;refine ty 3 (.bool false) ?_;refine ty 4 (.bool false) ?_;refine ts 5 ?_;refine ts 6 ?_;refine ts 7 ?_;refine ts 8 ?_;refine ts 9 ?_;refine ts 10 ?_;refine ts 11 ?_;refine ts 12 ?_;refine ty 13 (.bool false) ?_;refine ty 14 (.int .i64 (hi:Int)) ?_;refine ty 15 (.bool false) ?_;refine wpAnyH_done (by kernel_rfl) ?_ _
 go_wp2_with fail
 go_ret2
 refine⟨hi,false,by simp,⟨by omega,H1.out,H2.out,?_⟩,Zb HB.out (Zf hgr)⟩
 constructor
 ·intro h0
  cases h0
 rintro⟨y',h1,h2⟩;have:=(List.getElem?_eq_some_iff.1 h1).1;rw[HN.out]at this;exact absurd this hn
end Go.Proofs.YtfhecilhcofboaaGreat
/- slices.Insert of one record, over lives and over tallies: at the end, in the midst with room, in the midst without. -/
namespace Go.Proofs.YtfhecilhcofboaaGreat
open Go.RowKit

theorem Vo(x:Zk):∀v ∈ Zv x,v.oneCell'=true:=by
 intro v hv;simp only[Zv,List.mem_cons,List.not_mem_nil,or_false]at hv
 rcases hv with rfl|rfl|rfl|rfl|rfl <;> rfl
theorem Jc(x:Tal):∀v ∈ Yb x,v.oneCell'=true:=by
 intro v hv;simp only[Yb,List.mem_cons,List.not_mem_nil,or_false]at hv
 rcases hv with rfl|rfl|rfl <;> rfl
theorem Tryz.infoTally:(Tryz.prog.info? 108).map (fun i=>(i.zero,i.size,i.bytes))=some (some (.agg #[.int .i64 0,.int .i64 0,.int .i64 0]),3,24):=by kernel_rfl
theorem Tryz.sizeTally:(Tryz.prog.info? 108).map (·.size)=some 3:=by kernel_rfl
theorem Box.cellsAt{w:World}{g:Nat}{cs:List Value}{t:TypeId}(h:Box w g cs t):∀j u,cs[j]? =some u→w.cell? ((⟨g,0,none⟩:Addr).add j)=some u:=by
 intro j u hj;rw[Uk,Nat.zero_add];exact h.get j hj
theorem Oe{α:Type}{enc:α→List Value}(h1:∀x,∀v ∈ enc x,v.oneCell'=true)(l:List α):∀v ∈ cellsS enc l,v.oneCell'=true:=by
 intro v hv;obtain⟨x,-,hx⟩:=List.mem_flatMap.1 hv;exact h1 x v hx

set_option maxRecDepth 100000 in
set_option maxHeartbeats 1000000 in
theorem insert_end_live(B:Nat)(v:Value)(l:List Zk)(x:Zk)(vb:Nat)(w:World)(h:w.ownsRow B 106 5 v l.length (cellsS Zv l))(hv:Box w vb (Zv x) 106)(hB:B≤w.heap.size)(hbig:l.length≤1000000000):
  Calls Tryz.prog 133 #[v,.int .i64 l.length,.slice (some ⟨vb,0,none⟩) 1 1] w fun e w'=>∃v',e=.returned v'∧w'.ownsRow B 106 5 v' (l.length+1) (cellsS Zv (l++[x]))∧w.grownBy w' v.ownBlock∧(v'.ownBlock=v.ownBlock∨v'.ownBlock=some w.heap.size):=by
 obtain⟨i0,hi0,hz0,hz1,hz2⟩:=info_parts Tryz.infoLive;have HSRC:Hid (Src Tryz.prog 5 24 (.slice (some ⟨vb,0,none⟩) 1 1) 1 (Zv x) w):=Src.ofSlice w Tryz.underlying24 ⟨vb,0,none⟩ 1 1 (Zv x) (by rw[Ze]) hv.cellsAt (Vo x);have HH:=Za h;clear hv
 rcases Qj h with⟨rfl,rfl⟩|⟨g,cap,rfl,hg,hh,hn,hm⟩
 ·clear h
  go_enter Tryz.func133,Tryz.ntmps133
  go_wp2_with (at_builtin;refine Xh _ rfl (.tmp 23) (.tmp 24) 24 24 rfl B 106 i0 (.agg #[.bool false,.int .i64 0,.int .i64 0,.int .i64 0,.int .i64 0]) 5 40 Tryz.underlying24 hi0 hz0 hz1 hz2 rfl _ _ _ rfl HH.out _ rfl 1 (Zv x) HSRC.out (by unfold maxLen;simp) (by simp) hB ?_)
  intro v' w4 hown' hgrow hat;have HO:=Za hown';have HG:=Za hgrow;have HAT:=Za hat;clear hown' hgrow hat
  go_wp2_with fail
  go_ret
  exact⟨_,rfl,by have h1:=HO.out;rw[←Vx]at h1;exact h1,HG.out,HAT.out⟩
 have hcm:cap≤9223372036854775807:=by unfold maxLen at hm;omega
 have hnn:(l.length:Int)≤(cap:Int):=by omega
 clear h hh hm
 by_cases hcc:cap=l.length
 ·subst hcc
  go_enter Tryz.func133,Tryz.ntmps133
  go_wp2_with (at_builtin;refine Xh _ rfl (.tmp 23) (.tmp 24) 24 24 rfl B 106 i0 (.agg #[.bool false,.int .i64 0,.int .i64 0,.int .i64 0,.int .i64 0]) 5 40 Tryz.underlying24 hi0 hz0 hz1 hz2 rfl _ _ _ rfl HH.out _ rfl 1 (Zv x) HSRC.out (by unfold maxLen;omega) (by omega) hB ?_)
  intro v' w4 hown' hgrow hat;have HO:=Za hown';have HG:=Za hgrow;have HAT:=Za hat;clear hown' hgrow hat
  go_wp2_with fail
  go_ret
  exact⟨_,rfl,by have h1:=HO.out;rw[←Vx]at h1;exact h1,HG.out,HAT.out⟩
 go_enter Tryz.func133,Tryz.ntmps133
 go_wp2_with (at_builtin;refine Xh _ rfl (.tmp 23) (.tmp 24) 24 24 rfl B 106 i0 (.agg #[.bool false,.int .i64 0,.int .i64 0,.int .i64 0,.int .i64 0]) 5 40 Tryz.underlying24 hi0 hz0 hz1 hz2 rfl _ _ _ rfl HH.out _ rfl 1 (Zv x) HSRC.out (by unfold maxLen;omega) (by omega) hB ?_)
 intro v' w4 hown' hgrow hat;have HO:=Za hown';have HG:=Za hgrow;have HAT:=Za hat;clear hown' hgrow hat
 go_wp2_with fail
 go_ret
 exact⟨_,rfl,by have h1:=HO.out;rw[←Vx]at h1;exact h1,HG.out,HAT.out⟩

set_option maxRecDepth 100000 in
set_option maxHeartbeats 2000000 in
theorem insert_room_live(g cap i:Nat)(l:List Zk)(x:Zk)(vb:Nat)(w:World)(h:Zu 106 5 Zv w g cap l)(hn:l.length+1≤cap)(hm:cap≤maxLen)(hi:i<l.length)(hv:Box w vb (Zv x) 106)(hne:vb≠g):
  Calls Tryz.prog 133 #[.slice (some ⟨g,0,none⟩) l.length cap,.int .i64 i,.slice (some ⟨vb,0,none⟩) 1 1] w fun e w'=>e=.returned (.slice (some ⟨g,0,none⟩) (l.length+1) cap)∧Zu 106 5 Zv w' g cap (l.take i++x::l.drop i)∧w.grownBy w' (some g):=by
 obtain⟨i0,hi0,hz0,hz1,hz2⟩:=info_parts Tryz.infoLive;have hcm:cap≤9223372036854775807:=by unfold maxLen at hm;omega
 obtain⟨n,HN⟩:∃n,Hid (l.length=n):=⟨_,rfl⟩;have hN:l.length=n:=HN.out
 have hov:∀lb cb,(callFunc 145 #[.slice (some ⟨vb,0,none⟩) 1 1,.slice (some ⟨g,(i+1)*5,none⟩) lb cb]).run Tryz.prog w=.ok (.value (.bool false)) w:=fun lb cb=>by
  obtain⟨cur,k1,k2,k3⟩:=h;have hv2:=hv;unfold Box at hv2
  rw[run_callFunc_extern Tryz.func145 (by kernel_rfl) (by kernel_rfl) (by kernel_rfl) (e:=Extern.SlicesOverlaps.overlaps #[24,24] #[4]) (by kernel_rfl),
   Lib.run_overlaps_apart w 24 4 106 Tryz.underlying24 5 (fun w=>by simp[sizeOf,typeInfo,hi0,hz1]) ⟨vb,0,none⟩ ⟨g,(i+1)*5,none⟩ 1 1 lb cb hne 106 106 5 (cap*5) (by simp[World.shape?,hv2,Zv]) (by simp[World.shape?,k1,k2]) (by omega) (hv.free 0) (hv.free 5)]
  rfl
 have hcp1:∀ty dc sc,(Builtin.copy_ #[24,24] ty #[.slice (some ⟨g,(i+1)*5,none⟩) (n - i) dc,.slice (some ⟨g,i*5,none⟩) (n+1 - i) sc]).run Tryz.prog w.drew=.ok (goInt ((n - i:Nat):Int)) (w.drew.setCells g ((i+1)*5) (cellsS Zv (l.drop i))):=fun ty dc sc=>
  Vj w.drew 24 24 ty 106 5 g ((i+1)*5) (n - i) dc ⟨g,i*5,none⟩ (n+1 - i) sc (n - i) (cellsS Zv (l.drop i)) Tryz.underlying24 Tryz.sizeLive (by simp only[Nat.min_def];split <;> omega) (by rw[Zj Ze,List.length_drop,HN.out])
   (fun j v hj=>by
    have hjl:=(List.getElem?_eq_some_iff.1 hj).1;rw[Zj Ze,List.length_drop]at hjl;have hc:=h.cell (j:=i*5+j) (by omega);rw[Uk];rw[←Qe Ze,List.getElem?_drop]at hj;rw[←hj]
    exact hc)
   (fun j hj=>by rw[Zj Ze,List.length_drop]at hj;exact(h.room (j:=(i+1)*5+j) (by omega)).1)
   (fun j hj=>h.free ((i+1)*5+j)) (Oe Vo _)
 obtain⟨W1,hW1⟩:∃W1,W1=w.drew.setCells g ((i+1)*5) (cellsS Zv (l.drop i)):=⟨_,rfl⟩;have hd:Zu 106 5 Zv w.drew g cap l:=h
 have H1:Zu 106 5 Zv W1 g cap (l.take (i+1)++l.drop i):=by
  rw[hW1];exact hd.put Ze _ _ (by rw[Zj Ze,List.length_drop];omega) (by rw[Ue Ze,Xe]) (by omega)
 have hlen1:(l.take (i+1)++l.drop i).length=l.length+1:=by rw[List.length_append,List.length_take,List.length_drop];omega
 have hv1:Box W1 vb (Zv x) 106:=by
  rw[hW1];unfold Box at hv ⊢
  exact((Yh g (cellsS Zv (l.drop i)) ((i+1)*5) w.drew).block vb (lt_of_block hv) (by simpa using hne)).trans hv
 have hcp2:∀ty dc,(Builtin.copy_ #[24,24] ty #[.slice (some ⟨g,i*5,none⟩) (n+1 - i) dc,.slice (some ⟨vb,0,none⟩) 1 1]).run Tryz.prog W1=.ok (goInt 1) (W1.setCells g (i*5) (Zv x)):=fun ty dc=>
  Vj W1 24 24 ty 106 5 g (i*5) (n+1 - i) dc ⟨vb,0,none⟩ 1 1 1 (Zv x) Tryz.underlying24 Tryz.sizeLive (by simp only[Nat.min_def];split <;> omega) rfl hv1.cellsAt
   (fun j hj=>by rw[Ze]at hj;exact(H1.room (j:=i*5+j) (by omega)).1)
   (fun j hj=>H1.free (i*5+j)) (Vo x)
 have HR:Hid (Zu 106 5 Zv (W1.setCells g (i*5) (Zv x)) g cap (l.take i++x::l.drop i)):=by
  have:=H1.set Ze (i:=i) x (by rw[hlen1];omega) (by rw[hlen1];exact hn)
  have e1:(l.take (i+1)++l.drop i).set i x=l.take i++x::l.drop i:=by
   rw[List.take_succ_eq_append_getElem hi,List.append_assoc,List.set_append_right _ _ (by rw[List.length_take];omega)];rw[List.length_take,Nat.min_eq_left (by omega),Nat.sub_self];rfl
  rw[e1]at this;exact this
 have HG:Hid (w.grownBy (W1.setCells g (i*5) (Zv x)) (some g)):=by
  have a1:w.drew.grownBy W1 (some g):=by rw[hW1];exact Yh _ _ _ _
  exact Zy ⟨a1.os,a1.tape,a1.output,a1.size,a1.block⟩ (Yh g (Zv x) (i*5) W1)
 rw[←hW1]at hcp1;rw[HN.out]at hi hn ⊢;have q1:¬((i:Int)=(n:Int)):=by omega
 have q2:¬((cap:Int)<(n:Int)+1):=by omega
 have q3:(0:Int)≤(i:Int)+1:=by omega
 have q4:((i:Int)+1).toNat=i+1:=by omega
 have q5:¬(cap=i+1):=by omega
 have q6:¬(cap=i):=by omega
 have q7:(i:Int)≤(n:Int)+1:=by omega
 have q8:(i:Int)≤(n:Int):=by omega
 have q9:(n:Int)≤(cap:Int):=by omega
 have hw1:IntKind.i64.wrap ((i:Int)+1)=(i:Int)+1:=wrapL (by omega) (by omega);clear hd h H1 hv hv1 hW1 hm hN hlen1
 go_enter Tryz.func133,Tryz.ntmps133
 go_wp2_with (simp only[hov])
 go_region_law (refine Go.Proofs.step_copy_runI rfl _ _ 24 24 rfl _ _ (by simp[Act.eval,Act.put]) (by simp[Act.eval,Act.put]) (hcp1 _ _ _) ?_)
 go_wp2_with (at_builtin;refine Go.Proofs.wpList_copy_runI _ rfl _ _ 24 24 rfl _ _ rfl rfl (hcp2 _ _) ?_)
 go_ret
 exact⟨rfl,HR.out,HG.out⟩
set_option maxRecDepth 100000 in
set_option maxHeartbeats 1000000 in
theorem insert_end_tally(B:Nat)(v:Value)(l:List Tal)(x:Tal)(vb:Nat)(w:World)(h:w.ownsRow B 108 3 v l.length (cellsS Yb l))(hv:Box w vb (Yb x) 108)(hB:B≤w.heap.size)(hbig:l.length≤1000000000):
  Calls Tryz.prog 135 #[v,.int .i64 l.length,.slice (some ⟨vb,0,none⟩) 1 1] w fun e w'=>∃v',e=.returned v'∧w'.ownsRow B 108 3 v' (l.length+1) (cellsS Yb (l++[x]))∧w.grownBy w' v.ownBlock∧(v'.ownBlock=v.ownBlock∨v'.ownBlock=some w.heap.size):=by
 obtain⟨i0,hi0,hz0,hz1,hz2⟩:=info_parts Tryz.infoTally;have HSRC:Hid (Src Tryz.prog 3 25 (.slice (some ⟨vb,0,none⟩) 1 1) 1 (Yb x) w):=Src.ofSlice w Tryz.underlying25 ⟨vb,0,none⟩ 1 1 (Yb x) (by rw[Zg]) hv.cellsAt (Jc x);have HH:=Za h;clear hv
 rcases Qj h with⟨rfl,rfl⟩|⟨g,cap,rfl,hg,hh,hn,hm⟩
 ·clear h
  go_enter Tryz.func135,Tryz.ntmps135
  go_wp2_with (at_builtin;refine Xh _ rfl (.tmp 23) (.tmp 24) 25 25 rfl B 108 i0 (.agg #[.int .i64 0,.int .i64 0,.int .i64 0]) 3 24 Tryz.underlying25 hi0 hz0 hz1 hz2 rfl _ _ _ rfl HH.out _ rfl 1 (Yb x) HSRC.out (by unfold maxLen;simp) (by simp) hB ?_)
  intro v' w4 hown' hgrow hat;have HO:=Za hown';have HG:=Za hgrow;have HAT:=Za hat;clear hown' hgrow hat
  go_wp2_with fail
  go_ret
  exact⟨_,rfl,by have h1:=HO.out;rw[←Vx]at h1;exact h1,HG.out,HAT.out⟩
 have hcm:cap≤9223372036854775807:=by unfold maxLen at hm;omega
 have hnn:(l.length:Int)≤(cap:Int):=by omega
 clear h hh hm
 by_cases hcc:cap=l.length
 ·subst hcc
  go_enter Tryz.func135,Tryz.ntmps135
  go_wp2_with (at_builtin;refine Xh _ rfl (.tmp 23) (.tmp 24) 25 25 rfl B 108 i0 (.agg #[.int .i64 0,.int .i64 0,.int .i64 0]) 3 24 Tryz.underlying25 hi0 hz0 hz1 hz2 rfl _ _ _ rfl HH.out _ rfl 1 (Yb x) HSRC.out (by unfold maxLen;omega) (by omega) hB ?_)
  intro v' w4 hown' hgrow hat;have HO:=Za hown';have HG:=Za hgrow;have HAT:=Za hat;clear hown' hgrow hat
  go_wp2_with fail
  go_ret
  exact⟨_,rfl,by have h1:=HO.out;rw[←Vx]at h1;exact h1,HG.out,HAT.out⟩
 go_enter Tryz.func135,Tryz.ntmps135
 go_wp2_with (at_builtin;refine Xh _ rfl (.tmp 23) (.tmp 24) 25 25 rfl B 108 i0 (.agg #[.int .i64 0,.int .i64 0,.int .i64 0]) 3 24 Tryz.underlying25 hi0 hz0 hz1 hz2 rfl _ _ _ rfl HH.out _ rfl 1 (Yb x) HSRC.out (by unfold maxLen;omega) (by omega) hB ?_)
 intro v' w4 hown' hgrow hat;have HO:=Za hown';have HG:=Za hgrow;have HAT:=Za hat;clear hown' hgrow hat
 go_wp2_with fail
 go_ret
 exact⟨_,rfl,by have h1:=HO.out;rw[←Vx]at h1;exact h1,HG.out,HAT.out⟩

set_option maxRecDepth 100000 in
set_option maxHeartbeats 2000000 in
theorem insert_room_tally(g cap i:Nat)(l:List Tal)(x:Tal)(vb:Nat)(w:World)(h:Zu 108 3 Yb w g cap l)(hn:l.length+1≤cap)(hm:cap≤maxLen)(hi:i<l.length)(hv:Box w vb (Yb x) 108)(hne:vb≠g):
  Calls Tryz.prog 135 #[.slice (some ⟨g,0,none⟩) l.length cap,.int .i64 i,.slice (some ⟨vb,0,none⟩) 1 1] w fun e w'=>e=.returned (.slice (some ⟨g,0,none⟩) (l.length+1) cap)∧Zu 108 3 Yb w' g cap (l.take i++x::l.drop i)∧w.grownBy w' (some g):=by
 obtain⟨i0,hi0,hz0,hz1,hz2⟩:=info_parts Tryz.infoTally;have hcm:cap≤9223372036854775807:=by unfold maxLen at hm;omega
 obtain⟨n,HN⟩:∃n,Hid (l.length=n):=⟨_,rfl⟩;have hN:l.length=n:=HN.out
 have hov:∀lb cb,(callFunc 147 #[.slice (some ⟨vb,0,none⟩) 1 1,.slice (some ⟨g,(i+1)*3,none⟩) lb cb]).run Tryz.prog w=.ok (.value (.bool false)) w:=fun lb cb=>by
  obtain⟨cur,k1,k2,k3⟩:=h;have hv2:=hv;unfold Box at hv2
  rw[run_callFunc_extern Tryz.func147 (by kernel_rfl) (by kernel_rfl) (by kernel_rfl) (e:=Extern.SlicesOverlaps.overlaps #[25,25] #[4]) (by kernel_rfl),
   Lib.run_overlaps_apart w 25 4 108 Tryz.underlying25 3 (fun w=>by simp[sizeOf,typeInfo,hi0,hz1]) ⟨vb,0,none⟩ ⟨g,(i+1)*3,none⟩ 1 1 lb cb hne 108 108 3 (cap*3) (by simp[World.shape?,hv2,Yb]) (by simp[World.shape?,k1,k2]) (by omega) (hv.free 0) (hv.free 3)]
  rfl
 have hcp1:∀ty dc sc,(Builtin.copy_ #[25,25] ty #[.slice (some ⟨g,(i+1)*3,none⟩) (n - i) dc,.slice (some ⟨g,i*3,none⟩) (n+1 - i) sc]).run Tryz.prog w.drew=.ok (goInt ((n - i:Nat):Int)) (w.drew.setCells g ((i+1)*3) (cellsS Yb (l.drop i))):=fun ty dc sc=>
  Vj w.drew 25 25 ty 108 3 g ((i+1)*3) (n - i) dc ⟨g,i*3,none⟩ (n+1 - i) sc (n - i) (cellsS Yb (l.drop i)) Tryz.underlying25 Tryz.sizeTally (by simp only[Nat.min_def];split <;> omega) (by rw[Zj Zg,List.length_drop,HN.out])
   (fun j v hj=>by
    have hjl:=(List.getElem?_eq_some_iff.1 hj).1;rw[Zj Zg,List.length_drop]at hjl;have hc:=h.cell (j:=i*3+j) (by omega);rw[Uk];rw[←Qe Zg,List.getElem?_drop]at hj;rw[←hj]
    exact hc)
   (fun j hj=>by rw[Zj Zg,List.length_drop]at hj;exact(h.room (j:=(i+1)*3+j) (by omega)).1)
   (fun j hj=>h.free ((i+1)*3+j)) (Oe Jc _)
 obtain⟨W1,hW1⟩:∃W1,W1=w.drew.setCells g ((i+1)*3) (cellsS Yb (l.drop i)):=⟨_,rfl⟩;have hd:Zu 108 3 Yb w.drew g cap l:=h
 have H1:Zu 108 3 Yb W1 g cap (l.take (i+1)++l.drop i):=by
  rw[hW1];exact hd.put Zg _ _ (by rw[Zj Zg,List.length_drop];omega) (by rw[Ue Zg,Xe]) (by omega)
 have hlen1:(l.take (i+1)++l.drop i).length=l.length+1:=by rw[List.length_append,List.length_take,List.length_drop];omega
 have hv1:Box W1 vb (Yb x) 108:=by
  rw[hW1];unfold Box at hv ⊢
  exact((Yh g (cellsS Yb (l.drop i)) ((i+1)*3) w.drew).block vb (lt_of_block hv) (by simpa using hne)).trans hv
 have hcp2:∀ty dc,(Builtin.copy_ #[25,25] ty #[.slice (some ⟨g,i*3,none⟩) (n+1 - i) dc,.slice (some ⟨vb,0,none⟩) 1 1]).run Tryz.prog W1=.ok (goInt 1) (W1.setCells g (i*3) (Yb x)):=fun ty dc=>
  Vj W1 25 25 ty 108 3 g (i*3) (n+1 - i) dc ⟨vb,0,none⟩ 1 1 1 (Yb x) Tryz.underlying25 Tryz.sizeTally (by simp only[Nat.min_def];split <;> omega) rfl hv1.cellsAt
   (fun j hj=>by rw[Zg]at hj;exact(H1.room (j:=i*3+j) (by omega)).1)
   (fun j hj=>H1.free (i*3+j)) (Jc x)
 have HR:Hid (Zu 108 3 Yb (W1.setCells g (i*3) (Yb x)) g cap (l.take i++x::l.drop i)):=by
  have:=H1.set Zg (i:=i) x (by rw[hlen1];omega) (by rw[hlen1];exact hn)
  have e1:(l.take (i+1)++l.drop i).set i x=l.take i++x::l.drop i:=by
   rw[List.take_succ_eq_append_getElem hi,List.append_assoc,List.set_append_right _ _ (by rw[List.length_take];omega)];rw[List.length_take,Nat.min_eq_left (by omega),Nat.sub_self];rfl
  rw[e1]at this;exact this
 have HG:Hid (w.grownBy (W1.setCells g (i*3) (Yb x)) (some g)):=by
  have a1:w.drew.grownBy W1 (some g):=by rw[hW1];exact Yh _ _ _ _
  exact Zy ⟨a1.os,a1.tape,a1.output,a1.size,a1.block⟩ (Yh g (Yb x) (i*3) W1)
 rw[←hW1]at hcp1;rw[HN.out]at hi hn ⊢;have q1:¬((i:Int)=(n:Int)):=by omega
 have q2:¬((cap:Int)<(n:Int)+1):=by omega
 have q3:(0:Int)≤(i:Int)+1:=by omega
 have q4:((i:Int)+1).toNat=i+1:=by omega
 have q5:¬(cap=i+1):=by omega
 have q6:¬(cap=i):=by omega
 have q7:(i:Int)≤(n:Int)+1:=by omega
 have q8:(i:Int)≤(n:Int):=by omega
 have q9:(n:Int)≤(cap:Int):=by omega
 have hw1:IntKind.i64.wrap ((i:Int)+1)=(i:Int)+1:=wrapL (by omega) (by omega);clear hd h H1 hv hv1 hW1 hm hN hlen1
 go_enter Tryz.func135,Tryz.ntmps135
 go_wp2_with (simp only[hov])
 go_region_law (refine Go.Proofs.step_copy_runI rfl _ _ 25 25 rfl _ _ (by simp[Act.eval,Act.put]) (by simp[Act.eval,Act.put]) (hcp1 _ _ _) ?_)
 go_wp2_with (at_builtin;refine Go.Proofs.wpList_copy_runI _ rfl _ _ 25 25 rfl _ _ rfl rfl (hcp2 _ _) ?_)
 go_ret
 exact⟨rfl,HR.out,HG.out⟩
end Go.Proofs.YtfhecilhcofboaaGreat
/- slices.Insert of one record in the midst of a row without room; and in all: a record laid at its place. -/
namespace Go.Proofs.YtfhecilhcofboaaGreat
open Go.RowKit

set_option maxRecDepth 100000 in
set_option maxHeartbeats 2000000 in
theorem insert_grow_live(B g i:Nat)(l:List Zk)(x:Zk)(vb:Nat)(w:World)(h:Zu 106 5 Zv w g l.length l)(hi:i<l.length)(hv:Box w vb (Zv x) 106)(hB:B≤w.heap.size)(hbig:l.length≤1000000000):
  Calls Tryz.prog 133 #[.slice (some ⟨g,0,none⟩) l.length l.length,.int .i64 i,.slice (some ⟨vb,0,none⟩) 1 1] w fun e w'=>∃v',e=.returned v'∧w'.ownsRow B 106 5 v' (l.length+1) (cellsS Zv (l.take i++x::l.drop i))∧w.grownBy w' (some g)∧v'.ownBlock=some w.heap.size:=by
 obtain⟨i0,hi0,hz0,hz1,hz2⟩:=info_parts Tryz.infoLive;obtain⟨n,HN⟩:∃n,Hid (l.length=n):=⟨_,rfl⟩;have hN:l.length=n:=HN.out;have hgl:=h.lt
 have hold:(Builtin.firstCells i0.size i (.slice (some ⟨g,0,none⟩) i n)).run Tryz.prog w.drew=.ok (cellsS Zv (l.take i)).toArray w.drew:=by
  rw[hz1]
  exact run_firstCells_some w.drew 5 i ⟨g,0,none⟩ i n (cellsS Zv (l.take i)) (by rw[Zj Ze,List.length_take];omega) (fun j v hj=>by
   have hjl:=(List.getElem?_eq_some_iff.1 hj).1;rw[Zj Ze,List.length_take]at hjl;have hc:=h.cell (j:=j) (by omega);rw[Uk,Nat.zero_add];rw[←Ue Ze,List.getElem?_take_of_lt (by omega)]at hj;rw[←hj]
   exact hc)
 obtain⟨G,hG⟩:∃G,G=grownCap w (n+1) n 106:=⟨_,rfl⟩;have hGn:n+1≤G:=by rw[hG];exact grownCap_ge w _ _ _
 have hGm:G≤maxLen:=by rw[hG];exact grownCap_le_maxLen w (n+1) n 106 (by unfold maxLen;omega)
 obtain⟨ROW,hROW⟩:∃ROW:Array Value,ROW=(cellsS Zv (l.take i)).toArray++Builtin.zeroCells (Value.cells (.agg #[.bool false,.int .i64 0,.int .i64 0,.int .i64 0,.int .i64 0])) (n+1 - i)++Builtin.zeroCells (Value.cells (.agg #[.bool false,.int .i64 0,.int .i64 0,.int .i64 0,.int .i64 0])) (G - (n+1)):=⟨_,rfl⟩
 have hRs:ROW.size=G*5:=by
  rw[hROW];simp only[Array.size_append,List.size_toArray,size_zeroCells,Zj Ze,List.length_take];have:(Value.cells (.agg #[.bool false,.int .i64 0,.int .i64 0,.int .i64 0,.int .i64 0])).size=5:=rfl;rw[this];omega
 have hrz:∀ty,(Builtin.append_ #[24,3] ty #[.slice (some ⟨g,0,none⟩) i n,.int .i64 ((n:Int)+1 - (i:Int))]).run Tryz.prog w=
   .ok (.slice (some ⟨w.heap.size,0,none⟩) (n+1) G) (w.drew.alloc (.cells ROW 106)):=fun ty=>by
  have h2:=Lib.run_append_grow_zeros w 24 3 ty 106 i0 _ .i64 .i64 Tryz.underlying24 Tryz.underlying3 hi0 hz0 (some ⟨g,0,none⟩) i n (cellsS Zv (l.take i)) hold (n+1 - i) (by omega) (by omega) (by omega) (by omega) (by rw[hz2];omega) (by rw[hz2,show i+(n+1 - i)=n+1 by omega];exact growslice_fits (by omega) (by omega));rw[show i+(n+1 - i)=n+1 by omega,←hG,←hROW]at h2;rw[show(n:Int)+1 - (i:Int)=((n+1 - i:Nat):Int) by omega];exact h2
 obtain⟨W1,hW1⟩:∃W1,W1=w.drew.alloc (.cells ROW 106):=⟨_,rfl⟩
 have H1:Zu 106 5 Zv W1 w.heap.size G (l.take i):=by
  rw[hW1];refine⟨ROW,heap_alloc_new w.drew _,hRs,?_⟩;rw[hROW];simp only[Array.toList_append];rw[List.append_assoc,List.take_left' (Zj Ze _)]
 have hb1:Below w.heap.size w W1:=by rw[hW1];exact Below.plus (Below.refl w.heap.size w).drew _
 have hv1:Box W1 vb (Zv x) 106:=hv.below hb1 (nlr _);have hh1:Zu 106 5 Zv W1 g l.length l:=h.below hb1 (nlr _);have hlt:(l.take i).length=i:=by rw[List.length_take];omega
 have hvw:=hv.lt;obtain⟨W2,hW2⟩:∃W2,W2=W1.setCells w.heap.size (i*5) (Zv x):=⟨_,rfl⟩
 have H2:Zu 106 5 Zv W2 w.heap.size G (l.take i++[x]):=by
  rw[hW2];exact H1.put Ze (Zv x) _ (by rw[Ze];omega) (by rw[List.take_of_length_le (by rw[Zj Ze,hlt];omega),Vx]) (by rw[hlt];omega)
 have hg12:W1.grownBy W2 (some w.heap.size):=by rw[hW2];exact Yh _ _ _ _
 have hh2:Zu 106 5 Zv W2 g l.length l:=hh1.grown hg12 (by simp;omega);obtain⟨W3,hW3⟩:∃W3,W3=W2.setCells w.heap.size ((i+1)*5) (cellsS Zv (l.drop i)):=⟨_,rfl⟩
 have H3:Zu 106 5 Zv W3 w.heap.size G (l.take i++x::l.drop i):=by
  rw[hW3];have:=H2.put (o:=(i+1)*5) Ze (cellsS Zv (l.drop i)) (l.take i++[x]++l.drop i) (by rw[Zj Ze,List.length_drop];omega) (by rw[List.take_of_length_le (by rw[Zj Ze,List.length_append,hlt];simp),Xe _ (l.drop i)]) (by rw[List.length_append,hlt];simp);rw[List.append_assoc]at this;exact this
 have hg23:W2.grownBy W3 (some w.heap.size):=by rw[hW3];exact Yh _ _ _ _
 have HO:Hid (W3.ownsRow B 106 5 (.slice (some ⟨w.heap.size,0,none⟩) (n+1) G) (n+1) (cellsS Zv (l.take i++x::l.drop i))):=by
  have hl:(l.take i++x::l.drop i).length=n+1:=by rw[List.length_append,hlt,List.length_cons,List.length_drop];omega
  have:=H3.own Ze hB (by rw[hl];exact hGn) hGm;rw[hl]at this;exact this
 have HG:Hid (w.grownBy W3.drew (some g)):=by
  have a1:w.grownBy W3 (some w.heap.size):=Zy (Zy (Yg hb1) hg12) hg23;exact⟨a1.os,a1.tape,a1.output,a1.size,fun k hk _=>a1.block k hk (by simp;omega)⟩
 have hcpA:∀(W:World),W=W1→∀ty dc,(Builtin.copy_ #[24,24] ty #[.slice (some ⟨w.heap.size,i*5,none⟩) (n+1 - i) dc,.slice (some ⟨vb,0,none⟩) 1 1]).run Tryz.prog W=.ok (goInt 1) W2:=fun W hW ty dc=>by
  rw[hW,hW2]
  exact Vj W1 24 24 ty 106 5 w.heap.size (i*5) (n+1 - i) dc ⟨vb,0,none⟩ 1 1 1 (Zv x) Tryz.underlying24 Tryz.sizeLive (by simp only[Nat.min_def];split <;> omega) rfl hv1.cellsAt
   (fun j hj=>by rw[Ze]at hj;exact(H1.room (j:=i*5+j) (by omega)).1)
   (fun j hj=>H1.free (i*5+j)) (Vo x)
 have hcpB:∀ty dc sc,(Builtin.copy_ #[24,24] ty #[.slice (some ⟨w.heap.size,(i+1)*5,none⟩) (n - i) dc,.slice (some ⟨g,i*5,none⟩) (n - i) sc]).run Tryz.prog W2.drew=.ok (goInt ((n - i:Nat):Int)) W3.drew:=fun ty dc sc=>by
  have hW3':W3.drew=W2.drew.setCells w.heap.size ((i+1)*5) (cellsS Zv (l.drop i)):=by rw[hW3];exact Go.Proofs.drew_setCells _ _ _ _
  rw[hW3']
  exact Vj W2.drew 24 24 ty 106 5 w.heap.size ((i+1)*5) (n - i) dc ⟨g,i*5,none⟩ (n - i) sc (n - i) (cellsS Zv (l.drop i)) Tryz.underlying24 Tryz.sizeLive (by simp only[Nat.min_def];split <;> omega) (by rw[Zj Ze,List.length_drop,hN])
   (fun j v hj=>by
    have hjl:=(List.getElem?_eq_some_iff.1 hj).1;rw[Zj Ze,List.length_drop]at hjl;have hc:=hh2.cell (j:=i*5+j) (by omega);rw[Uk];rw[←Qe Ze,List.getElem?_drop]at hj;rw[←hj]
    exact hc)
   (fun j hj=>by rw[Zj Ze,List.length_drop]at hj;exact(H2.room (j:=(i+1)*5+j) (by omega)).1)
   (fun j hj=>H2.free ((i+1)*5+j)) (Oe Vo _)
 rw[HN.out]at hi hbig ⊢;have q1:¬((i:Int)=(n:Int)):=by omega
 have q3:(0:Int)≤(i:Int)+1:=by omega
 have q4:((i:Int)+1).toNat=i+1:=by omega
 have q5:¬(G=i+1):=by omega
 have q6:¬(n=i):=by omega
 have q7:¬(G=i):=by omega
 have q8:(i:Int)≤(n:Int):=by omega
 have q9:(i:Int)≤(n:Int)+1:=by omega
 have hw1:IntKind.i64.wrap ((i:Int)+1)=(i:Int)+1:=wrapL (by omega) (by omega);have hG63:G≤9223372036854775807:=by unfold maxLen at hGm;omega
 have HW1:Hid (w.drew.alloc (.cells ROW 106)=W1):=hW1.symm;clear hold hROW hG hRs H1 hb1 hv1 hh1 hW2 H2 hg12 hh2 hW3 H3 hg23 h hv hlt hN hGm;rw[←hW1]at hrz;clear hW1
 go_enter Tryz.func133,Tryz.ntmps133
 go_wp2_with (first
  |(at_builtin;refine Lib.wpList_append_run _ rfl _ _ _ _ rfl _ _ rfl rfl _ _ (hrz _) ?_)
  |(at_builtin;refine Go.Proofs.wpList_copy_runI _ rfl _ _ 24 24 rfl _ _ rfl rfl (hcpA _ rfl _ _) ?_))
 go_region_law (refine Go.Proofs.step_copy_runI rfl _ _ 24 24 rfl (.slice (some ⟨w.heap.size,(i+1)*5,none⟩) (n - i) (G - (i+1))) (.slice (some ⟨g,i*5,none⟩) (n - i) (n - i)) (by simp[Act.eval,Act.put]) (by simp[Act.eval,Act.put]) (hcpB _ _ _) ?_)
 go_wp2_with fail
 go_ret
 exact⟨_,rfl,HO.out,HG.out,rfl⟩

theorem insert_live(B:Nat)(v:Value)(i:Nat)(l:List Zk)(x:Zk)(vb:Nat)(w:World)(h:w.ownsRow B 106 5 v l.length (cellsS Zv l))(hv:Box w vb (Zv x) 106)(hne:∀g,v.ownBlock=some g→vb≠g)(hB:B≤w.heap.size)(hi:i≤l.length)(hbig:l.length≤1000000000):
  Calls Tryz.prog 133 #[v,.int .i64 i,.slice (some ⟨vb,0,none⟩) 1 1] w fun e w'=>∃v',e=.returned v'∧w'.ownsRow B 106 5 v' (l.length+1) (cellsS Zv (l.take i++x::l.drop i))∧w.grownBy w' v.ownBlock∧(v'.ownBlock=v.ownBlock∨v'.ownBlock=some w.heap.size):=by
 by_cases hil:i=l.length
 ·subst hil;rw[List.take_length,List.drop_length];exact insert_end_live B v l x vb w h hv hB hbig
 rcases Qj h with⟨rfl,rfl⟩|⟨g,cap,rfl,hg,hh,hn,hm⟩
 ·simp at hi hil
  omega
 by_cases hc:l.length+1≤cap
 ·refine(insert_room_live g cap i l x vb w hh hc hm (by omega) hv (hne g rfl)).mono ?_;rintro e w' ⟨rfl,h1,h2⟩;have hl:(l.take i++x::l.drop i).length=l.length+1:=by rw[List.length_append,List.length_cons,List.length_take,List.length_drop];omega
  refine⟨_,rfl,?_,h2,.inl rfl⟩;have:=h1.own Ze hg (by rw[hl];exact hc) hm;rw[hl]at this;exact this
 obtain rfl:cap=l.length:=by omega
 refine(insert_grow_live B g i l x vb w hh (by omega) hv hB hbig).mono ?_;rintro e w' ⟨v',rfl,h1,h2,h3⟩;exact⟨v',rfl,h1,h2,.inr h3⟩
set_option maxRecDepth 100000 in
set_option maxHeartbeats 2000000 in
theorem insert_grow_tally(B g i:Nat)(l:List Tal)(x:Tal)(vb:Nat)(w:World)(h:Zu 108 3 Yb w g l.length l)(hi:i<l.length)(hv:Box w vb (Yb x) 108)(hB:B≤w.heap.size)(hbig:l.length≤1000000000):
  Calls Tryz.prog 135 #[.slice (some ⟨g,0,none⟩) l.length l.length,.int .i64 i,.slice (some ⟨vb,0,none⟩) 1 1] w fun e w'=>∃v',e=.returned v'∧w'.ownsRow B 108 3 v' (l.length+1) (cellsS Yb (l.take i++x::l.drop i))∧w.grownBy w' (some g)∧v'.ownBlock=some w.heap.size:=by
 obtain⟨i0,hi0,hz0,hz1,hz2⟩:=info_parts Tryz.infoTally;obtain⟨n,HN⟩:∃n,Hid (l.length=n):=⟨_,rfl⟩;have hN:l.length=n:=HN.out;have hgl:=h.lt
 have hold:(Builtin.firstCells i0.size i (.slice (some ⟨g,0,none⟩) i n)).run Tryz.prog w.drew=.ok (cellsS Yb (l.take i)).toArray w.drew:=by
  rw[hz1]
  exact run_firstCells_some w.drew 3 i ⟨g,0,none⟩ i n (cellsS Yb (l.take i)) (by rw[Zj Zg,List.length_take];omega) (fun j v hj=>by
   have hjl:=(List.getElem?_eq_some_iff.1 hj).1;rw[Zj Zg,List.length_take]at hjl;have hc:=h.cell (j:=j) (by omega);rw[Uk,Nat.zero_add];rw[←Ue Zg,List.getElem?_take_of_lt (by omega)]at hj;rw[←hj]
   exact hc)
 obtain⟨G,hG⟩:∃G,G=grownCap w (n+1) n 108:=⟨_,rfl⟩;have hGn:n+1≤G:=by rw[hG];exact grownCap_ge w _ _ _
 have hGm:G≤maxLen:=by rw[hG];exact grownCap_le_maxLen w (n+1) n 108 (by unfold maxLen;omega)
 obtain⟨ROW,hROW⟩:∃ROW:Array Value,ROW=(cellsS Yb (l.take i)).toArray++Builtin.zeroCells (Value.cells (.agg #[.int .i64 0,.int .i64 0,.int .i64 0])) (n+1 - i)++Builtin.zeroCells (Value.cells (.agg #[.int .i64 0,.int .i64 0,.int .i64 0])) (G - (n+1)):=⟨_,rfl⟩
 have hRs:ROW.size=G*3:=by
  rw[hROW];simp only[Array.size_append,List.size_toArray,size_zeroCells,Zj Zg,List.length_take];have:(Value.cells (.agg #[.int .i64 0,.int .i64 0,.int .i64 0])).size=3:=rfl;rw[this];omega
 have hrz:∀ty,(Builtin.append_ #[25,3] ty #[.slice (some ⟨g,0,none⟩) i n,.int .i64 ((n:Int)+1 - (i:Int))]).run Tryz.prog w=
   .ok (.slice (some ⟨w.heap.size,0,none⟩) (n+1) G) (w.drew.alloc (.cells ROW 108)):=fun ty=>by
  have h2:=Lib.run_append_grow_zeros w 25 3 ty 108 i0 _ .i64 .i64 Tryz.underlying25 Tryz.underlying3 hi0 hz0 (some ⟨g,0,none⟩) i n (cellsS Yb (l.take i)) hold (n+1 - i) (by omega) (by omega) (by omega) (by omega) (by rw[hz2];omega) (by rw[hz2,show i+(n+1 - i)=n+1 by omega];exact growslice_fits (by omega) (by omega));rw[show i+(n+1 - i)=n+1 by omega,←hG,←hROW]at h2;rw[show(n:Int)+1 - (i:Int)=((n+1 - i:Nat):Int) by omega];exact h2
 obtain⟨W1,hW1⟩:∃W1,W1=w.drew.alloc (.cells ROW 108):=⟨_,rfl⟩
 have H1:Zu 108 3 Yb W1 w.heap.size G (l.take i):=by
  rw[hW1];refine⟨ROW,heap_alloc_new w.drew _,hRs,?_⟩;rw[hROW];simp only[Array.toList_append];rw[List.append_assoc,List.take_left' (Zj Zg _)]
 have hb1:Below w.heap.size w W1:=by rw[hW1];exact Below.plus (Below.refl w.heap.size w).drew _
 have hv1:Box W1 vb (Yb x) 108:=hv.below hb1 (nlr _);have hh1:Zu 108 3 Yb W1 g l.length l:=h.below hb1 (nlr _);have hlt:(l.take i).length=i:=by rw[List.length_take];omega
 have hvw:=hv.lt;obtain⟨W2,hW2⟩:∃W2,W2=W1.setCells w.heap.size (i*3) (Yb x):=⟨_,rfl⟩
 have H2:Zu 108 3 Yb W2 w.heap.size G (l.take i++[x]):=by
  rw[hW2];exact H1.put Zg (Yb x) _ (by rw[Zg];omega) (by rw[List.take_of_length_le (by rw[Zj Zg,hlt];omega),Vx]) (by rw[hlt];omega)
 have hg12:W1.grownBy W2 (some w.heap.size):=by rw[hW2];exact Yh _ _ _ _
 have hh2:Zu 108 3 Yb W2 g l.length l:=hh1.grown hg12 (by simp;omega);obtain⟨W3,hW3⟩:∃W3,W3=W2.setCells w.heap.size ((i+1)*3) (cellsS Yb (l.drop i)):=⟨_,rfl⟩
 have H3:Zu 108 3 Yb W3 w.heap.size G (l.take i++x::l.drop i):=by
  rw[hW3];have:=H2.put (o:=(i+1)*3) Zg (cellsS Yb (l.drop i)) (l.take i++[x]++l.drop i) (by rw[Zj Zg,List.length_drop];omega) (by rw[List.take_of_length_le (by rw[Zj Zg,List.length_append,hlt];simp),Xe _ (l.drop i)]) (by rw[List.length_append,hlt];simp);rw[List.append_assoc]at this;exact this
 have hg23:W2.grownBy W3 (some w.heap.size):=by rw[hW3];exact Yh _ _ _ _
 have HO:Hid (W3.ownsRow B 108 3 (.slice (some ⟨w.heap.size,0,none⟩) (n+1) G) (n+1) (cellsS Yb (l.take i++x::l.drop i))):=by
  have hl:(l.take i++x::l.drop i).length=n+1:=by rw[List.length_append,hlt,List.length_cons,List.length_drop];omega
  have:=H3.own Zg hB (by rw[hl];exact hGn) hGm;rw[hl]at this;exact this
 have HG:Hid (w.grownBy W3.drew (some g)):=by
  have a1:w.grownBy W3 (some w.heap.size):=Zy (Zy (Yg hb1) hg12) hg23;exact⟨a1.os,a1.tape,a1.output,a1.size,fun k hk _=>a1.block k hk (by simp;omega)⟩
 have hcpA:∀(W:World),W=W1→∀ty dc,(Builtin.copy_ #[25,25] ty #[.slice (some ⟨w.heap.size,i*3,none⟩) (n+1 - i) dc,.slice (some ⟨vb,0,none⟩) 1 1]).run Tryz.prog W=.ok (goInt 1) W2:=fun W hW ty dc=>by
  rw[hW,hW2]
  exact Vj W1 25 25 ty 108 3 w.heap.size (i*3) (n+1 - i) dc ⟨vb,0,none⟩ 1 1 1 (Yb x) Tryz.underlying25 Tryz.sizeTally (by simp only[Nat.min_def];split <;> omega) rfl hv1.cellsAt
   (fun j hj=>by rw[Zg]at hj;exact(H1.room (j:=i*3+j) (by omega)).1)
   (fun j hj=>H1.free (i*3+j)) (Jc x)
 have hcpB:∀ty dc sc,(Builtin.copy_ #[25,25] ty #[.slice (some ⟨w.heap.size,(i+1)*3,none⟩) (n - i) dc,.slice (some ⟨g,i*3,none⟩) (n - i) sc]).run Tryz.prog W2.drew=.ok (goInt ((n - i:Nat):Int)) W3.drew:=fun ty dc sc=>by
  have hW3':W3.drew=W2.drew.setCells w.heap.size ((i+1)*3) (cellsS Yb (l.drop i)):=by rw[hW3];exact Go.Proofs.drew_setCells _ _ _ _
  rw[hW3']
  exact Vj W2.drew 25 25 ty 108 3 w.heap.size ((i+1)*3) (n - i) dc ⟨g,i*3,none⟩ (n - i) sc (n - i) (cellsS Yb (l.drop i)) Tryz.underlying25 Tryz.sizeTally (by simp only[Nat.min_def];split <;> omega) (by rw[Zj Zg,List.length_drop,hN])
   (fun j v hj=>by
    have hjl:=(List.getElem?_eq_some_iff.1 hj).1;rw[Zj Zg,List.length_drop]at hjl;have hc:=hh2.cell (j:=i*3+j) (by omega);rw[Uk];rw[←Qe Zg,List.getElem?_drop]at hj;rw[←hj]
    exact hc)
   (fun j hj=>by rw[Zj Zg,List.length_drop]at hj;exact(H2.room (j:=(i+1)*3+j) (by omega)).1)
   (fun j hj=>H2.free ((i+1)*3+j)) (Oe Jc _)
 rw[HN.out]at hi hbig ⊢;have q1:¬((i:Int)=(n:Int)):=by omega
 have q3:(0:Int)≤(i:Int)+1:=by omega
 have q4:((i:Int)+1).toNat=i+1:=by omega
 have q5:¬(G=i+1):=by omega
 have q6:¬(n=i):=by omega
 have q7:¬(G=i):=by omega
 have q8:(i:Int)≤(n:Int):=by omega
 have q9:(i:Int)≤(n:Int)+1:=by omega
 have hw1:IntKind.i64.wrap ((i:Int)+1)=(i:Int)+1:=wrapL (by omega) (by omega);have hG63:G≤9223372036854775807:=by unfold maxLen at hGm;omega
 have HW1:Hid (w.drew.alloc (.cells ROW 108)=W1):=hW1.symm;clear hold hROW hG hRs H1 hb1 hv1 hh1 hW2 H2 hg12 hh2 hW3 H3 hg23 h hv hlt hN hGm;rw[←hW1]at hrz;clear hW1
 go_enter Tryz.func135,Tryz.ntmps135
 go_wp2_with (first
  |(at_builtin;refine Lib.wpList_append_run _ rfl _ _ _ _ rfl _ _ rfl rfl _ _ (hrz _) ?_)
  |(at_builtin;refine Go.Proofs.wpList_copy_runI _ rfl _ _ 25 25 rfl _ _ rfl rfl (hcpA _ rfl _ _) ?_))
 go_region_law (refine Go.Proofs.step_copy_runI rfl _ _ 25 25 rfl (.slice (some ⟨w.heap.size,(i+1)*3,none⟩) (n - i) (G - (i+1))) (.slice (some ⟨g,i*3,none⟩) (n - i) (n - i)) (by simp[Act.eval,Act.put]) (by simp[Act.eval,Act.put]) (hcpB _ _ _) ?_)
 go_wp2_with fail
 go_ret
 exact⟨_,rfl,HO.out,HG.out,rfl⟩

theorem insert_tally(B:Nat)(v:Value)(i:Nat)(l:List Tal)(x:Tal)(vb:Nat)(w:World)(h:w.ownsRow B 108 3 v l.length (cellsS Yb l))(hv:Box w vb (Yb x) 108)(hne:∀g,v.ownBlock=some g→vb≠g)(hB:B≤w.heap.size)(hi:i≤l.length)(hbig:l.length≤1000000000):
  Calls Tryz.prog 135 #[v,.int .i64 i,.slice (some ⟨vb,0,none⟩) 1 1] w fun e w'=>∃v',e=.returned v'∧w'.ownsRow B 108 3 v' (l.length+1) (cellsS Yb (l.take i++x::l.drop i))∧w.grownBy w' v.ownBlock∧(v'.ownBlock=v.ownBlock∨v'.ownBlock=some w.heap.size):=by
 by_cases hil:i=l.length
 ·subst hil;rw[List.take_length,List.drop_length];exact insert_end_tally B v l x vb w h hv hB hbig
 rcases Qj h with⟨rfl,rfl⟩|⟨g,cap,rfl,hg,hh,hn,hm⟩
 ·simp at hi hil
  omega
 by_cases hc:l.length+1≤cap
 ·refine(insert_room_tally g cap i l x vb w hh hc hm (by omega) hv (hne g rfl)).mono ?_;rintro e w' ⟨rfl,h1,h2⟩;have hl:(l.take i++x::l.drop i).length=l.length+1:=by rw[List.length_append,List.length_cons,List.length_take,List.length_drop];omega
  refine⟨_,rfl,?_,h2,.inl rfl⟩;have:=h1.own Zg hg (by rw[hl];exact hc) hm;rw[hl]at this;exact this
 obtain rfl:cap=l.length:=by omega
 refine(insert_grow_tally B g i l x vb w hh (by omega) hv hB hbig).mono ?_;rintro e w' ⟨v',rfl,h1,h2,h3⟩;exact⟨v',rfl,h1,h2,.inr h3⟩
end Go.Proofs.YtfhecilhcofboaaGreat
