/- The document's own Clock of a log. -/
import Derived.Test.YtfhecilhcofboaaGreatRefMix
import Derived.Test.YtfhecilhcofboaaGreatUpdRef
import Derived.Test.YtfhecilhcofboaaGreatLogA
import Derived.Test.YtfhecilhcofboaaGreatGrow
import Derived.Test.YtfhecilhcofboaaGreatSortI
namespace Go.Proofs.YtfhecilhcofboaaGreat
open Go.RowKit

theorem rowAtC{w:World}{a:Option Addr}{m c:Nat}{xs:List Int}(h:Row w (.slice a m c) xs){i:Nat}(hi:i<xs.length):∃b off,a=some ⟨b,off,none⟩∧w.cell? ⟨b,off+i,none⟩=some (.int .i64 (xs.getD i 0)):=by
 obtain⟨a',c',h1,-,-,h4⟩:=h;simp only[Value.slice.injEq]at h1;obtain⟨rfl,-,-⟩:=h1;exact h4 i hi
theorem Yi{w w':World}{p:Addr}{v:Value}(hg:Zh w w')(h:w.cell? p=some v):w'.cell? p=some v:=(hg.cell (p:=p) (World.block_lt_of_cell? w _ h)).trans h
theorem zB{u:Upd}{n:Int}(h:Zz u n=0):Zn u.seen n=0∧0≤u.author∧u.author<n:=by
 unfold Zz at h
 split at h
 ·next h1=>exact absurd h h1
 next h1=>
 split at h
 ·cases h
 next h2=>
 unfold lateU at h2;simp only[decide_eq_true_eq]at h2;exact⟨Decidable.not_not.1 h1,by omega,by omega⟩
theorem own_blockC{w:World}{B:Nat}{v:Value}{xs:List Int}(h:Own w B v xs)(hx:0<xs.length):∃g cap,v=.slice (some ⟨g,0,none⟩) xs.length cap∧B≤g:=by
 rcases h.2 with⟨rfl,h0⟩|⟨g,cap,cur,rfl,hg,-⟩
 ·omega
 exact⟨g,cap,rfl,hg⟩
set_option maxRecDepth 100000 in
set_option maxHeartbeats 1000000 in
theorem bad_clock(e i:Int)(g:Nat)(w:World)(h:Box w g [.int .i64 i] 3):
  Calls Tryz.prog 77 #[.int .i64 e,.pointer (some ⟨g,0,none⟩)] w fun e' w'=>e'=.returned (.tuple #[.slice none 0 0,.agg #[.int .i64 e,.int .i64 i]])∧Below w.heap.size w w':=by
 have hlt:=h.lt;have n1:¬(w.heap.size=g):=by omega
 have n2:¬(g=w.heap.size):=by omega
 have K1:=(h.plus (.cells #[.int .i64 0,.int .i64 0] 65));have Z1:=Box.new w [.int .i64 0,.int .i64 0] 65;have HB1:=Za (bpl w (.cells #[.int .i64 0,.int .i64 0] 65));obtain⟨w1,HW1⟩:∃W,Hid (w.alloc (.cells #[.int .i64 0,.int .i64 0] 65)=W):=⟨_,rfl⟩;rw[HW1.out]at K1 Z1 HB1;have c0:=K1.get 0 rfl;obtain⟨z0,z1⟩:=Z1.c2;have f0:=Z1.free 0;have f1:=Z1.free 1;have hR:=Za ((Z1.set 0 (.int .i64 e)).set 1 (.int .i64 i));clear h K1 Z1
 go_enter Tryz.func77,Tryz.ntmps77
 go_upto_region 1 with fail
 rw[HW1.out]
 go_region
 go_wp2_with fail
 refine bodyPost_ret (Ym rfl _ _ w.heap.size 65 _ (0,0) _ rfl hR.out Tryz.underlying65 rfl Tryz.sizeFault) rfl ⟨rfl,?_⟩
 exact((HB1.setCell (p:=⟨w.heap.size,0,none⟩) (nlr _) _).setCell (p:=⟨w.heap.size,1,none⟩) (nlr _) _).drew

set_option maxRecDepth 100000 in
set_option maxHeartbeats 4000000 in
theorem clock_ref(v lv:Value)(xs:List Int)(l:List Upd)(n:Int)(w:World)(h:Row w v xs)(hl:Vh w lv l):
  Calls Tryz.prog 33 #[v,lv,.int .i64 n] w fun e w'=>∃rv,e=.returned (.tuple #[rv,.agg #[.int .i64 (Xb xs l n),.int .i64 (Vg xs l n)]])∧Own w' w.heap.size rv (Vf xs l n)∧Below w.heap.size w w':=by
 have hlen:=hl.len_le;obtain⟨a,cap,rfl,-,-,-⟩:=id h;obtain⟨a',cap',rfl,-,-,-⟩:=id hl;have Z0:=Za (Box.new w [.int .i64 0,.int .i64 0] 65);have HB0:=Za (bpl w (.cells #[.int .i64 0,.int .i64 0] 65));have C0:=Za (h.alloc (.cells #[.int .i64 0,.int .i64 0] 65));have L0:=Za (hl.alloc (.cells #[.int .i64 0,.int .i64 0] 65));have LW:=Za hl;clear h hl
 by_cases hw:Zn xs n=0
 ·have HW:=Za hw;have hxl:xs.length≤6:=by have:=Yq hw;omega
  clear hw
  by_cases h300:300<l.length
  ·have HE:Hid (Xb xs l n=5):=by simp[Hid,Xb,HW.out,h300]
   have HA:Hid (Vg xs l n=0):=by simp[Hid,Vg,HW.out,h300]
   have HX:Hid (Vf xs l n=[]):=by simp[Hid,Vf,HE.out]
   rw[HE.out,HA.out,HX.out];have h300':(300:Int)<(l.length:Int):=by omega
   clear HE HA HX
   go_enter Tryz.func33,Tryz.ntmps33
   go_wp2_with fail
   refine(Xy _ xs n _ C0.out).mono ?_;rintro e w' ⟨rfl,hw'⟩;rw[hw'];clear hw' w';rw[HW.out];obtain⟨cZ0,cZ1⟩:=Z0.c2;have f0:=Z0.free 0;have f1:=Z0.free 1
   go_wp2_with fail
   refine bodyPost_ret (Ym rfl _ _ w.heap.size 65 _ (0,0) _ rfl (Box.new w [.int .i64 5,.int .i64 0] 65) Tryz.underlying65 rfl Tryz.sizeFault) rfl ⟨_,rfl,Jm _ _,?_⟩;exact bpl w _
  have HE:Hid (Xb xs l n=Xf n xs l):=by simp[Hid,Xb,HW.out,h300]
  have HA:Hid (Vg xs l n=if Xf n xs l=0 then 0 else(atL n xs l:Int)):=by simp[Hid,Vg,HW.out,h300]
  have HX:Hid (Vf xs l n=if Xf n xs l=0 then Ys xs l else[]):=by simp[Hid,Vf,HE.out]
  obtain⟨E,HEE⟩:∃E,Hid (Xb xs l n=E):=⟨_,rfl⟩;obtain⟨A,HAA⟩:∃A,Hid (Vg xs l n=A):=⟨_,rfl⟩;obtain⟨R,HRR⟩:∃R,Hid (Vf xs l n=R):=⟨_,rfl⟩;rw[HEE.out]at HE;rw[HAA.out]at HA;rw[HRR.out]at HX;rw[HEE.out,HAA.out,HRR.out];clear HEE HAA HRR;have HRR:=HX;clear HX;have h300':¬(300:Int)<(l.length:Int):=by omega
  obtain⟨i0,hi,hz0,hz1,hz2⟩:=info_parts Tryz.infoInt;have hx1:0<xs.length:=by have:=Yq HW.out;omega
  go_enter Tryz.func33,Tryz.ntmps33
  go_wp2_with fail
  refine(Xy _ xs n _ C0.out).mono ?_;rintro e w' ⟨rfl,hw'⟩;rw[hw'];clear hw' w';rw[HW.out];obtain⟨w0,HW0⟩:∃W,Hid (w.alloc (.cells #[.int .i64 0,.int .i64 0] 65)=W):=⟨_,rfl⟩;rw[HW0.out]at Z0 C0 L0 HB0 ⊢;have hsz:=Z0.lt;have hbe:=bpl w0 (.cells #[] 3);have SR:=Za ((C0.below hbe (nlr _)).src (P:=Tryz.prog) Tryz.underlying22);have OE:Hid ((w0.alloc (.cells #[] 3)).ownsRow (w.heap.size+1) 3 1 (.slice (some ⟨w0.heap.size,0,none⟩) 0 0) 0 []):=⟨rfl,.inr ⟨w0.heap.size,0,#[],rfl,hsz,heap_alloc_new w0 _,nlr _,by unfold maxLen;omega,rfl,rfl⟩⟩
  go_wp2_with (at_builtin;refine Qu _ rfl (.tmp 25) (.tmp 26) 22 22 rfl (w.heap.size+1) 3 i0 (.int .i64 0) 1 8 Tryz.underlying22 hi hz0 hz1 hz2 rfl _ _ _ rfl OE.out _ rfl _ _ SR.out ?c3 ?c4 ?c5 ?_)
  case c3=>unfold maxLen;omega
  case c4=>omega
  case c5=>simp;omega
  intro cv w1 hown' hgrow;have S1:Own w1 (w.heap.size+1) cv xs:=hown';obtain⟨gc,ccap,hcv,hgc⟩:=own_blockC S1 hx1;subst hcv;have hbb:Below (w.heap.size+1) w0 w1:=((Below.refl (w.heap.size+1) w0).alloc hsz _).grown hgrow (by simp;omega) (fun g hg=>(World.ownsRow.lt OE.out g hg).1);have HS1:=Za S1;have HB1:=Za (HB0.trans (hbb.mono (Nat.le_succ _)));have Z1:Hid (Box w1 w.heap.size [.int .i64 0,.int .i64 0] 65):=by unfold Hid Box;rw[hbb.block _ (Nat.lt_succ_self _)];exact Z0.out
  have HGC:=Za hgc;clear hown' hgrow S1 hbb hbe SR OE Z0 C0 L0 HB0
  go_wp2_with fail
  go_loopw [30] (fun i wr=>∃k:Nat,k≤l.length∧i=.int .i64 k∧Hid (Xf n xs (l.take k)=0)∧Hid (Own wr (w.heap.size+1) (.slice (some ⟨gc,0,none⟩) xs.length ccap) (Ys xs (l.take k)))∧Hid (Below w.heap.size w wr)∧Hid (Box wr w.heap.size [.int .i64 0,.int .i64 0] 65)) (fun i _=>l.length - (intOf i).toNat)
  case atStart=>exact⟨0,Nat.zero_le _,rfl,rfl,HS1,HB1,Z1⟩
  obtain⟨k,hk,rfl,HK,HS2,HB2,Z2⟩:=hrel;obtain⟨w2,rfl⟩:∃w2,w2=wr:=⟨wr,rfl⟩;clear HS1 HB1 Z1;obtain⟨X,HX⟩:∃X,Hid (Ys xs (l.take k)=X):=⟨_,rfl⟩;have HXL:Hid (X.length=xs.length):=by unfold Hid;rw[←HX.out,xJ]
  rw[HX.out]at HS2
  by_cases hlt:k<l.length
  ·have hlt':(k:Int)<(l.length:Int):=by omega
   obtain⟨u,hu⟩:∃u,l[k]? =some u:=⟨_,List.getElem?_eq_getElem hlt⟩;obtain⟨b,off,a5,cap5,hba,d0,d1,d2,d3,d4,hsv,hup⟩:=(LW.below HB2.out (nlr _)).at hu;subst hba;obtain⟨ua,us,uk,uy,ui⟩:=u;have hbp:=Below.plus (bpl w2 (.cells #[.int .i64 k] 3)) (.cells #[.int .i64 ua,.slice a5 us.length cap5,.int .i64 uk,.int .i64 uy,.int .i64 ui] 33);have K3:=Za ((Box.new w2 [.int .i64 k] 3).plus (.cells #[.int .i64 ua,.slice a5 us.length cap5,.int .i64 uk,.int .i64 uy,.int .i64 ui] 33));have U3:=Za (Box.new (w2.alloc (.cells #[.int .i64 k] 3)) [.int .i64 ua,.slice a5 us.length cap5,.int .i64 uk,.int .i64 uy,.int .i64 ui] 33);rw[World.size_alloc]at U3;have S3:=Za (HS2.below hbp (nlr _));have Z3:=Za (Z2.below hbp (nlr _));have P3:=Za (hup.below hbp (nlr _));have V3:=Za (hsv.below hbp (nlr _));have HB3:=Za (HB2.trans (hbp.mono HB2.size));have HSZ:=Za (Nat.lt_of_lt_of_le Z2.lt (nlr _));obtain⟨gi,HGI⟩:∃gi,Hid (w2.heap.size=gi):=⟨_,rfl⟩;obtain⟨w3,HW3⟩:∃W,Hid ((w2.alloc (.cells #[.int .i64 k] 3)).alloc (.cells #[.int .i64 ua,.slice a5 us.length cap5,.int .i64 uk,.int .i64 uy,.int .i64 ui] 33)=W):=⟨_,rfl⟩;rw[HW3.out]at K3 U3 S3 Z3 P3 V3 HB3;rw[HGI.out]at K3 U3;clear hbp hup hsv HS2 Z2 HB2;obtain⟨E0,HE0⟩:∃E0,Hid (Zz ⟨ua,us,uk,uy,ui⟩ n=E0):=⟨_,rfl⟩
   go_upto_region 11 with fail
   rw[HW3.out,HGI.out];clear d0 d1 d2 d3 d4;obtain⟨x0,x1,x2,x3,x4⟩:=U3.c5
   go_wp2_with fail
   refine(wrongU_ref _ ⟨ua,us,uk,uy,ui⟩ n _ P3.out).mono ?_;rintro e w5 ⟨rfl,hb5⟩;rw[HE0.out];have K5:=Za (K3.below hb5 (nlr _));have U5:=Za (U3.below hb5 (nlr _));have S5:=Za (S3.below hb5 (nlr _));have Z5:=Za (Z3.below hb5 (nlr _));have V5:=Za (V3.below hb5 (nlr _));have HB5:=Za (HB3.trans (hb5.mono HB3.size));clear x0 x1 x2 x3 x4 hb5 K3 U3 S3 Z3 P3 V3 HB3
   by_cases h0:E0=0
   ·subst h0;obtain⟨wc,w0',wn⟩:=zB HE0.out;obtain⟨au,hau⟩:∃au:Nat,ua=au:=⟨ua.toNat,by simp only at w0';omega⟩;subst hau;have HUL:Hid (us.length=xs.length):=by have h1:=Yq wc;have h2:=Yq HW.out;unfold Hid;simp only at h1;omega
    have haX:au<X.length:=by rw[HXL.out,←HUL.out];have h1:=Yq wc;simp only at h1 wn;omega
    have haU:au<us.length:=by rw[HUL.out,←HXL.out];exact haX
    have hax:(au:Int)<(xs.length:Int):=by rw[←HXL.out];omega
    have hau1:(au:Int)<(us.length:Int):=by omega
    have hau0:¬(au:Int)<0:=by omega
    clear wc w0' wn;obtain⟨ya,HYA⟩:∃y,Hid (X.getD au 0=y):=⟨_,rfl⟩;obtain⟨yb,HYB⟩:∃y,Hid (us.getD au 0=y):=⟨_,rfl⟩;obtain⟨sb,so,hsb,kb⟩:=rowAtC V5.out haU;rw[HYB.out]at kb;subst hsb;have S5':Hid (Own w5 (w.heap.size+1) (.slice (some ⟨gc,0,none⟩) X.length ccap) X):=by unfold Hid;rw[HXL.out];exact S5.out
    have ka:w5.cell? ⟨gc,au,none⟩=some (.int .i64 ya):=by
     rw[S5'.out.cellAt au (by omega)];rw[←HYA.out,List.getD_eq_getElem?_getD,List.getElem?_map,List.getElem?_eq_getElem haX];rfl
    have HK5:=Za fun w' (hg:Zh w5 w')=>And.intro (U5.below hg (nlr _)).c2 (And.intro (Yi hg ka) (Yi hg kb));clear kb
    go_upto_region 14 with fail
    clear ka
    go_cut [57] (fun c wx=>c=.bool (decide (yb<ya))∧Hid (Zh w5 wx))
    case first=>
     by_cases hgt:yb<ya
     ·skip
      refine rgn HK5.out fun wd hgd hHeld=>?_;refine ty 0 (.slice (some ⟨gc,0,none⟩) xs.length ccap) ?_;refine ty 1 (.pointer (some ⟨gi+1,0,none⟩)) ?_;refine ty 2 (.int .i64 (au:Int)) ?_;refine ty 3 (.pointer (some ⟨gc,au,none⟩)) ?_;refine ty 4 (.int .i64 ya) ?_;refine ty 5 (.pointer (some ⟨gi+1,1,none⟩)) ?_;refine ty 6 (.slice (some ⟨sb,so,none⟩) us.length cap5) ?_;refine ty 7 (.pointer (some ⟨gi+1,0,none⟩)) ?_;refine ty 8 (.int .i64 (au:Int)) ?_;refine ty 9 (.pointer (some ⟨sb,so+au,none⟩)) ?_;refine ty 10 (.int .i64 yb) ?_;refine ty 11 (.bool true) ?_;refine wpAnyH_done (by kernel_rfl) ?_ _
      go_wp2_with fail
      go_meet
      exact⟨by simp[hgt],hgd⟩
     skip
     refine rgn HK5.out fun wd hgd hHeld=>?_;refine ty 0 (.slice (some ⟨gc,0,none⟩) xs.length ccap) ?_;refine ty 1 (.pointer (some ⟨gi+1,0,none⟩)) ?_;refine ty 2 (.int .i64 (au:Int)) ?_;refine ty 3 (.pointer (some ⟨gc,au,none⟩)) ?_;refine ty 4 (.int .i64 ya) ?_;refine ty 5 (.pointer (some ⟨gi+1,1,none⟩)) ?_;refine ty 6 (.slice (some ⟨sb,so,none⟩) us.length cap5) ?_;refine ty 7 (.pointer (some ⟨gi+1,0,none⟩)) ?_;refine ty 8 (.int .i64 (au:Int)) ?_;refine ty 9 (.pointer (some ⟨sb,so+au,none⟩)) ?_;refine ty 10 (.int .i64 yb) ?_;refine ty 11 (.bool false) ?_;refine wpAnyH_done (by kernel_rfl) ?_ _
     go_wp2_with fail
     go_meet
     exact⟨by simp[hgt],hgd⟩
    obtain⟨rfl,HGR⟩:=hcut;obtain⟨w6,rfl⟩:∃w6,w6=wc:=⟨wc,rfl⟩;have K6:=Za (K5.below HGR.out (nlr _));have U6:=Za (U5.below HGR.out (nlr _));have S6:=Za (S5'.out.below HGR.out (nlr _));have Z6:=Za (Z5.below HGR.out (nlr _));have V6:=Za (V5.below HGR.out (nlr _));have HB6:=Za (HB5.trans (HGR.mono HB5.size));clear K5 U5 S5 S5' Z5 V5 HB5 HK5 HGR
    by_cases hgt:yb<ya
    ·rw[decide_eq_true hgt]
     have HM:Hid (Yz ⟨(au:Int),us,uk,uy,ui⟩ X n=7):=by
      unfold Hid Yz Qk Xu Vy;rw[if_pos HE0.out];simp only[Uc,Int.toNat_natCast,HYA.out,HYB.out];rw[if_pos (by rw[decide_eq_true_iff];omega)]
     obtain⟨e1,e2⟩:=errL_stop hu HK.out (by rw[HX.out,HM.out];decide);rw[HX.out,HM.out]at e1;have E1:=Za e1;have E2:=Za e2;have hmm:Hid (¬(7:Int)=0):=by unfold Hid;decide
     clear e1 e2
     go_wp2_with fail
     refine(bad_clock (7) k _ _ K6.out).mono ?_;rintro e w9 ⟨rfl,hb9⟩;have Z9:=Z6.below hb9 (nlr _);have HB9:=Za (HB6.trans (hb9.mono HB6.size));obtain⟨c0,c1⟩:=Z9.c2;have f0:=Z9.free 0;have f1:=Z9.free 1
     go_wp2_with fail
     have hZ:=(Z9.set 0 (.int .i64 (7))).set 1 (.int .i64 k);refine bodyPost_ret (Ym rfl _ _ w.heap.size 65 _ (0,0) _ rfl hZ Tryz.underlying65 rfl Tryz.sizeFault) rfl ⟨_,zC (by rw[HE.out,E1.out]) (by rw[HA.out,E1.out,E2.out,if_neg hmm.out]),by rw[HRR.out,E1.out,if_neg hmm.out];exact Jm _ _,?_⟩
     exact(HB9.setCell (nlr _) _).setCell (nlr _) _
    rw[decide_eq_false hgt];have u1:=U6.get 1 rfl;have R6:=Za S6.row;rw[HXL.out]at R6
    go_wp2_with fail
    refine(sees_ref _ _ X us _ R6.out V6.out).mono ?_;rintro e w' ⟨rfl,hw'⟩;rw[hw'];clear hw' w' u1 R6
    by_cases hse:Ju X us=true
    ·rw[hse]
     have HM:Yz ⟨(au:Int),us,uk,uy,ui⟩ X n=0:=by
      unfold Yz Qk Xu Vy;rw[if_pos HE0.out];simp only[Uc,Int.toNat_natCast,HYA.out,HYB.out];rw[if_neg (by rw[decide_eq_true_iff];omega),if_pos hse]
     obtain⟨e1,e2⟩:=errL_step hu HK.out (by rw[HX.out];exact HM);have E1:=Za e1;have E2:=Za e2;have HT:Hid (Ja X (au:Int)=X.set au (wrap64 (ya+1))):=by unfold Hid Ja;rw[if_pos ⟨by omega,by omega⟩,Int.toNat_natCast,HYA.out]
     have ST:=S6.stored au (.int .i64 (wrap64 (ya+1)))
     have S7:Hid (Own (w6.setCell ⟨gc,au,none⟩ (.int .i64 (wrap64 (ya+1)))) (w.heap.size+1) (.slice (some ⟨gc,0,none⟩) xs.length ccap) (Ja X (au:Int))):=by
      unfold Hid Own;rw[HT.out,List.length_set,List.map_set,←HXL.out];exact ST.1
     have Z7:=Za (Z6.away (i:=au) (v:=.int .i64 (wrap64 (ya+1))) (g':=gc) (by have:=HGC.out;omega));have HB7:=Za (HB6.setCell (p:=⟨gc,au,none⟩) (by have:=HGC.out;show w.heap.size≤gc;omega) (.int .i64 (wrap64 (ya+1))));have u0:=U6.get 0 rfl
     have ka:w6.cell? ⟨gc,au,none⟩=some (.int .i64 ya):=by
      rw[S6.cellAt au (by omega)];rw[←HYA.out,List.getD_eq_getElem?_getD,List.getElem?_map,List.getElem?_eq_getElem haX];rfl
     have fa:=S6.frozenAt au;clear ST e1 e2 HM hse
     go_wp2_with fail
     go_roundw
     case rel=>exact⟨k+1,by omega,by go_num,E1,by rw[E2.out,HX.out];exact S7,HB7,Z7⟩
     case measure=>simp[intOf];omega
    have hse':Ju X us=false:=by simpa using hse
    rw[hse']
    have HM:Hid (Yz ⟨(au:Int),us,uk,uy,ui⟩ X n=8):=by
     unfold Hid Yz Qk Xu Vy;rw[if_pos HE0.out];simp only[Uc,Int.toNat_natCast,HYA.out,HYB.out];rw[if_neg (by rw[decide_eq_true_iff];omega),if_neg hse]
    obtain⟨e1,e2⟩:=errL_stop hu HK.out (by rw[HX.out,HM.out];decide);rw[HX.out,HM.out]at e1;have E1:=Za e1;have E2:=Za e2;have hmm:Hid (¬(8:Int)=0):=by unfold Hid;decide
    clear e1 e2;clear hse hse'
    go_wp2_with fail
    refine(bad_clock (8) k _ _ K6.out).mono ?_;rintro e w9 ⟨rfl,hb9⟩;have Z9:=Z6.below hb9 (nlr _);have HB9:=Za (HB6.trans (hb9.mono HB6.size));obtain⟨c0,c1⟩:=Z9.c2;have f0:=Z9.free 0;have f1:=Z9.free 1
    go_wp2_with fail
    have hZ:=(Z9.set 0 (.int .i64 (8))).set 1 (.int .i64 k);refine bodyPost_ret (Ym rfl _ _ w.heap.size 65 _ (0,0) _ rfl hZ Tryz.underlying65 rfl Tryz.sizeFault) rfl ⟨_,zC (by rw[HE.out,E1.out]) (by rw[HA.out,E1.out,E2.out,if_neg hmm.out]),by rw[HRR.out,E1.out,if_neg hmm.out];exact Jm _ _,?_⟩
    exact(HB9.setCell (nlr _) _).setCell (nlr _) _
   have h0':(E0 != 0)=true:=by simp[h0]
   have HM:Hid (Yz ⟨ua,us,uk,uy,ui⟩ X n=E0):=by unfold Hid Yz;rw[HE0.out,if_neg h0]
   obtain⟨e1,e2⟩:=errL_stop hu HK.out (by rw[HX.out,HM.out];exact h0);rw[HX.out,HM.out]at e1;have E1:=Za e1;have E2:=Za e2;have hmm:=Za h0;clear e1 e2 h0
   go_wp2_with fail
   refine(bad_clock (E0) k _ _ K5.out).mono ?_;rintro e w9 ⟨rfl,hb9⟩;have Z9:=Z5.below hb9 (nlr _);have HB9:=Za (HB5.trans (hb9.mono HB5.size));obtain⟨c0,c1⟩:=Z9.c2;have f0:=Z9.free 0;have f1:=Z9.free 1
   go_wp2_with fail
   have hZ:=(Z9.set 0 (.int .i64 (E0))).set 1 (.int .i64 k);refine bodyPost_ret (Ym rfl _ _ w.heap.size 65 _ (0,0) _ rfl hZ Tryz.underlying65 rfl Tryz.sizeFault) rfl ⟨_,zC (by rw[HE.out,E1.out]) (by rw[HA.out,E1.out,E2.out,if_neg hmm.out]),by rw[HRR.out,E1.out,if_neg hmm.out];exact Jm _ _,?_⟩
   exact(HB9.setCell (nlr _) _).setCell (nlr _) _
  have hkl:l.take k=l:=List.take_of_length_le (by omega);rw[hkl]at HK HX;have hlt':¬(k:Int)<(l.length:Int):=by omega
  obtain⟨c0,c1⟩:=Z2.c2;have f0:=Z2.free 0;have f1:=Z2.free 1
  go_wp2_with fail
  have hZ:=(Z2.set 0 (.int .i64 0)).set 1 (.int .i64 0);refine bodyPost_ret (Ym rfl _ _ w.heap.size 65 _ (0,0) _ rfl hZ Tryz.underlying65 rfl Tryz.sizeFault) rfl ⟨_,zC (by rw[HE.out,HK.out]) (by rw[HA.out,HK.out,if_pos rfl]),?_,?_⟩
  ·rw[HRR.out,HK.out,if_pos rfl,HX.out];exact Own.mono ((HS2.away (Nat.lt_succ_self _) _ _).away (Nat.lt_succ_self _) _ _) (Nat.le_succ _)
  exact(HB2.setCell (nlr _) _).setCell (nlr _) _
 have HE:Hid (Xb xs l n=Zn xs n):=by simp[Hid,Xb,hw]
 have HA:Hid (Vg xs l n=0):=by simp[Hid,Vg,hw]
 have HX:Hid (Vf xs l n=[]):=by simp[Hid,Vf,HE.out,hw]
 rw[HE.out,HA.out,HX.out];have hne:(Zn xs n != 0)=true:=by simp[hw]
 clear HE HA HX hw;obtain⟨m,HM⟩:∃m,Hid (Zn xs n=m):=⟨_,rfl⟩;rw[HM.out]at hne ⊢
 go_enter Tryz.func33,Tryz.ntmps33
 go_wp2_with fail
 refine(Xy _ xs n _ C0.out).mono ?_;rintro e w' ⟨rfl,hw'⟩;rw[hw'];clear hw' w';rw[HM.out];obtain⟨cZ0,cZ1⟩:=Z0.c2;have f0:=Z0.free 0;have f1:=Z0.free 1
 go_wp2_with fail
 refine bodyPost_ret (Ym rfl _ _ w.heap.size 65 _ (0,0) _ rfl (Box.new w [.int .i64 m,.int .i64 0] 65) Tryz.underlying65 rfl Tryz.sizeFault) rfl ⟨_,rfl,Jm _ _,?_⟩;exact bpl w _
end Go.Proofs.YtfhecilhcofboaaGreat
