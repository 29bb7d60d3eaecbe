/- clock.Join and clock.Meet answer, in new memory, of each author the greater and the lesser entry of two clocks. -/
import Derived.Test.YtfhecilhcofboaaGreatReads
namespace Go.Proofs.YtfhecilhcofboaaGreat
open Go.RowKit

def part(f:Nat→Int)(n k:Nat):List Int:=(List.range n).map fun i=>if i<k then f i else 0
theorem part_length(f:Nat→Int)(n k:Nat):(part f n k).length=n:=by simp[part]
theorem part_set(f:Nat→Int)(n k:Nat):(part f n k).set k (f k)=part f n (k+1):=by
 apply List.ext_getElem
 ·simp[part]
 intro i h1 h2;simp only[part,List.getElem_set,List.getElem_map,List.getElem_range]
 by_cases e:k=i
 ·subst e;simp
 simp only[if_neg e]
 by_cases e2:i<k
 ·rw[if_pos e2,if_pos (by omega)]
 rw[if_neg e2,if_neg (by omega)]
theorem part_zero(f:Nat→Int)(n:Nat):part f n 0=List.replicate n 0:=by
 apply List.ext_getElem
 ·simp[part]
 intro i h1 h2;simp[part]
theorem part_full(f:Nat→Int)(n:Nat):part f n n=(List.range n).map f:=by
 apply List.ext_getElem
 ·simp[part]
 intro i h1 h2
 simp[part]at h1 ⊢
 omega

theorem getD_range_map(f:Nat→Int)(n i:Nat):((List.range n).map f).getD i 0=if i<n then f i else 0:=by
 by_cases h:i<n
 ·simp[List.getD,h]
 rw[Qc (by simp;omega),if_neg h]

def joinC(xs ys:List Int):List Int:=(List.range (Vq xs ys)).map fun i=>Vb (xs.getD i 0) (ys.getD i 0)
theorem Oz(xs ys:List Int):(joinC xs ys).length=Vq xs ys:=by simp[joinC]
theorem Vl(xs ys:List Int)(i:Nat):(joinC xs ys).getD i 0=Vb (xs.getD i 0) (ys.getD i 0):=by
 unfold joinC;rw[getD_range_map]
 split
 ·rfl
 next h=>
 have:=@lenM_le xs ys;rw[Qc (xs:=xs) (by omega),Qc (xs:=ys) (by omega)]
 decide
def Vt(xs ys:List Int):List Int:=(List.range (Vq xs ys)).map fun i=>On (xs.getD i 0) (ys.getD i 0)
theorem Ox(xs ys:List Int):(Vt xs ys).length=Vq xs ys:=by simp[Vt]
theorem meetC_getD(xs ys:List Int)(i:Nat):(Vt xs ys).getD i 0=On (xs.getD i 0) (ys.getD i 0):=by
 unfold Vt;rw[getD_range_map]
 split
 ·rfl
 next h=>
 have:=@lenM_le xs ys;rw[Qc (xs:=xs) (by omega),Qc (xs:=ys) (by omega)]
 decide

theorem made_ints(n:Nat):(madeCells (Value.int IntKind.i64 0).cells (n*1)).toList=(List.replicate n (0:Int)).map (Value.int .i64):=by
 rw[Nat.mul_one]
 show(madeCells #[Value.int IntKind.i64 0] n).toList=_
 rw[toList_madeCells_one,List.map_replicate]
theorem made_ints'(n:Nat):(madeCells #[Value.int IntKind.i64 0] n).toList=(List.replicate n (0:Int)).map (Value.int .i64):=by
 rw[toList_madeCells_one,List.map_replicate]

set_option maxRecDepth 100000 in
set_option maxHeartbeats 1000000 in
theorem combine_join(v u:Value)(xs ys:List Int)(w:World)(h:Row w v xs)(hu:Row w u ys)(hr:xs.length*8≤140737488351232)(hr':ys.length*8≤140737488351232):
  Calls Tryz.prog 93 #[v,u,.func (Fn.func 94) #[] #[]] w fun e w'=>∃r,e=.returned r∧Own w' w.heap.size r (joinC xs ys)∧Below w.heap.size w w':=by
 obtain⟨i0,hi,hz0,hz1,hz2⟩:=info_parts Tryz.infoInt;have hbd:Vq xs ys≤17592186043904:=lenM_bd (by omega) (by omega);obtain⟨W,HW⟩:∃W,Hid (W=(w.alloc (.cells #[v] 23)).alloc (.cells #[u] 23)):=⟨_,rfl⟩;have hb:Below w.heap.size w W:=by rw[HW.out];exact vB _ _ _
 have hsz:W.heap.size=w.heap.size+2:=by rw[HW.out];simp
 have HSZ:=Za hsz;have r1:=h.below hb (nlr _);have r2:=hu.below hb (nlr _);have c1:W.cell? ⟨w.heap.size,0,none⟩=some v:=by rw[HW.out];simp[World.cell?_alloc_past]
 have c2:W.cell? ⟨w.heap.size+1,0,none⟩=some u:=by rw[HW.out];simp
 have HL:=Za (xT v u xs ys W r1 r2)
 have H1:Hid (∀(wr:World) (k:Nat),Below W.heap.size W wr→Calls Tryz.prog 114 #[.int .i64 k,.pointer (some ⟨w.heap.size,0,none⟩)] wr fun e w'=>e=.returned (.int .i64 (xs.getD k 0))∧w'=wr):=
  fun wr k hbr=>xD ⟨w.heap.size,0,none⟩ v xs k wr rfl ((hbr.cell (by show w.heap.size<_;omega)).trans c1) (r1.below hbr (nlr _))
 have H2:Hid (∀(wr:World) (k:Nat),Below W.heap.size W wr→Calls Tryz.prog 114 #[.int .i64 k,.pointer (some ⟨w.heap.size+1,0,none⟩)] wr fun e w'=>e=.returned (.int .i64 (ys.getD k 0))∧w'=wr):=
  fun wr k hbr=>xD ⟨w.heap.size+1,0,none⟩ u ys k wr rfl ((hbr.cell (by show w.heap.size+1<_;omega)).trans c2) (r2.below hbr (nlr _))
 clear r1 r2 c1 c2 hsz;obtain⟨a,cap,rfl,-,-,-⟩:=h;obtain⟨a',cap',rfl,-,-,-⟩:=hu;obtain⟨f,HF⟩:∃f:Nat→Int,Hid (f=fun i=>Vb (xs.getD i 0) (ys.getD i 0)):=⟨_,rfl⟩;obtain⟨n,HN⟩:∃n,Hid (Vq xs ys=n):=⟨_,rfl⟩;rw[HN.out]at HL hbd
 go_enter Tryz.func93,Tryz.ntmps93
 go_wp2_with fail
 refine(Oc _ _ _ _).mono ?_;rintro e w' ⟨rfl,rfl⟩
 go_wp2_with fail
 refine(Oc _ _ _ _).mono ?_;rintro e w' ⟨rfl,hw'⟩;rw[show w'=W from hw'.trans HW.symm];clear hw' w' HW
 go_wp2_with fail
 refine HL.mono ?_;rintro e w' ⟨rfl,hw'⟩;rw[hw'];clear hw' w' HL
 go_wp2_with (at_make;refine wpList_make_full _ rfl _ _ 23 rfl W.heap.size 3 i0 (.int .i64 0) 1 Tryz.underlying23 hi hz0 hz1 _ _ _ _ n rfl rfl rfl rfl ?b2 ?b3 ?b4 ?_)
 case b2=>rw[hz2];omega
 case b3=>unfold maxLen;omega
 case b4=>exact nlr _
 intro w1 hown hgrow;have hb1:Below W.heap.size W w1:=(Below.refl _ _).grown hgrow (nlr _) (fun k hk=>by cases hk)
 have HOWN:Hid (w1.ownsRow W.heap.size 3 1 (.slice (some ⟨W.heap.size,0,none⟩) n n) n ((part f n 0).map (Value.int .i64))):=by
  rw[part_zero]
  first|(rw[made_ints]at hown;exact hown)|(rw[made_ints']at hown;exact hown)
 clear hown hgrow
 go_wp2_with fail
 go_loopw [21] (fun i wr=>∃k:Nat,k≤n∧i=.int .i64 k∧Hid (wr.ownsRow W.heap.size 3 1 (.slice (some ⟨W.heap.size,0,none⟩) n n) n ((part f n k).map (Value.int .i64)))∧Below W.heap.size W wr) (fun i _=>n - (intOf i).toNat)
 case atStart=>exact⟨0,Nat.zero_le _,rfl,HOWN,hb1⟩
 obtain⟨k,hk,rfl,hown,hbr⟩:=hrel;clear HOWN hb1
 by_cases hlt:k<n
 ·have hlt':(k:Int)<(n:Int):=by omega
  have G1:=Za (H1.out wr k hbr);have G2:=Za (H2.out wr k hbr);obtain⟨y,HY⟩:∃y,Hid (xs.getD k 0=y):=⟨_,rfl⟩;obtain⟨z,HZ⟩:∃y,Hid (ys.getD k 0=y):=⟨_,rfl⟩;rw[HY.out]at G1;rw[HZ.out]at G2;have ce:∃q,wr.cell? ⟨W.heap.size,k,none⟩=some q:=⟨_,by rw[hown.out.cellAt k (by omega),List.getElem?_map,List.getElem?_eq_getElem (by rw[part_length];omega)];rfl⟩;obtain⟨q,cq⟩:=ce;have cf:wr.frozen? ⟨W.heap.size,k,none⟩=false:=hown.out.frozenAt k
  go_wp2_with fail
  refine G1.mono ?_;rintro e w' ⟨rfl,hw'⟩;rw[hw'];clear hw' w'
  go_wp2_with fail
  refine G2.mono ?_;rintro e w' ⟨rfl,hw'⟩;rw[hw'];clear hw' w'
  go_wp2_with fail
  refine(fn_join _ _ _).mono ?_;rintro e w' ⟨rfl,hw'⟩;rw[hw'];clear hw' w'
  go_wp2_with fail
  go_roundw
  case rel=>
   refine⟨k+1,by omega,by go_num,Za ?_,hbr.setCell (nlr _) _⟩;have ef:Vb y z=f k:=by rw[HF.out];show _=Vb (xs.getD k 0) (ys.getD k 0);rw[HY.out,HZ.out]
   have:=(hown.out.stored k (.int .i64 (Vb y z))).1;rw[←List.map_set,ef,part_set]at this;rw[ef];exact this
  case measure=>simp[intOf];omega
 have hlt':¬(k:Int)<(n:Int):=by omega
 have hkn:k=n:=by omega
 subst hkn
 go_wp2_with fail
 go_ret
 refine⟨_,rfl,?_,hb.trans (hbr.mono (by have:=HSZ.out;omega))⟩;have:=hown.out;rw[part_full,HF.out]at this;have hl:(joinC xs ys).length=k:=by rw[Oz];exact HN.out
 have e:(joinC xs ys)=(List.range k).map fun i=>Vb (xs.getD i 0) (ys.getD i 0):=by unfold joinC;rw[HN.out]
 refine Own.mono (B:=W.heap.size) ?_ (by have:=HSZ.out;omega);unfold Own;rw[hl,e];exact this

theorem join_clock(v u:Value)(xs ys:List Int)(w:World)(h:Row w v xs)(hu:Row w u ys)(hr:xs.length*8≤140737488351232)(hr':ys.length*8≤140737488351232):
  Calls Tryz.prog 50 #[v,u] w fun e w'=>∃r,e=.returned r∧Own w' w.heap.size r (joinC xs ys)∧Below w.heap.size w w':=by
 have HH:=Za (combine_join v u xs ys w h hu hr hr');clear h hu
 go_enter Tryz.func50,Tryz.ntmps50
 go_wp2_with fail
 refine HH.mono ?_;rintro e w' ⟨r,rfl,ho,hb⟩;have HO:=Za ho;clear ho
 go_wp2_with fail
 go_ret
 exact⟨_,rfl,HO.out,hb⟩
set_option maxRecDepth 100000 in
set_option maxHeartbeats 1000000 in
theorem combine_meet(v u:Value)(xs ys:List Int)(w:World)(h:Row w v xs)(hu:Row w u ys)(hr:xs.length*8≤140737488351232)(hr':ys.length*8≤140737488351232):
  Calls Tryz.prog 93 #[v,u,.func (Fn.func 96) #[] #[]] w fun e w'=>∃r,e=.returned r∧Own w' w.heap.size r (Vt xs ys)∧Below w.heap.size w w':=by
 obtain⟨i0,hi,hz0,hz1,hz2⟩:=info_parts Tryz.infoInt;have hbd:Vq xs ys≤17592186043904:=lenM_bd (by omega) (by omega);obtain⟨W,HW⟩:∃W,Hid (W=(w.alloc (.cells #[v] 23)).alloc (.cells #[u] 23)):=⟨_,rfl⟩;have hb:Below w.heap.size w W:=by rw[HW.out];exact vB _ _ _
 have hsz:W.heap.size=w.heap.size+2:=by rw[HW.out];simp
 have HSZ:=Za hsz;have r1:=h.below hb (nlr _);have r2:=hu.below hb (nlr _);have c1:W.cell? ⟨w.heap.size,0,none⟩=some v:=by rw[HW.out];simp[World.cell?_alloc_past]
 have c2:W.cell? ⟨w.heap.size+1,0,none⟩=some u:=by rw[HW.out];simp
 have HL:=Za (xT v u xs ys W r1 r2)
 have H1:Hid (∀(wr:World) (k:Nat),Below W.heap.size W wr→Calls Tryz.prog 114 #[.int .i64 k,.pointer (some ⟨w.heap.size,0,none⟩)] wr fun e w'=>e=.returned (.int .i64 (xs.getD k 0))∧w'=wr):=
  fun wr k hbr=>xD ⟨w.heap.size,0,none⟩ v xs k wr rfl ((hbr.cell (by show w.heap.size<_;omega)).trans c1) (r1.below hbr (nlr _))
 have H2:Hid (∀(wr:World) (k:Nat),Below W.heap.size W wr→Calls Tryz.prog 114 #[.int .i64 k,.pointer (some ⟨w.heap.size+1,0,none⟩)] wr fun e w'=>e=.returned (.int .i64 (ys.getD k 0))∧w'=wr):=
  fun wr k hbr=>xD ⟨w.heap.size+1,0,none⟩ u ys k wr rfl ((hbr.cell (by show w.heap.size+1<_;omega)).trans c2) (r2.below hbr (nlr _))
 clear r1 r2 c1 c2 hsz;obtain⟨a,cap,rfl,-,-,-⟩:=h;obtain⟨a',cap',rfl,-,-,-⟩:=hu;obtain⟨f,HF⟩:∃f:Nat→Int,Hid (f=fun i=>On (xs.getD i 0) (ys.getD i 0)):=⟨_,rfl⟩;obtain⟨n,HN⟩:∃n,Hid (Vq xs ys=n):=⟨_,rfl⟩;rw[HN.out]at HL hbd
 go_enter Tryz.func93,Tryz.ntmps93
 go_wp2_with fail
 refine(Oc _ _ _ _).mono ?_;rintro e w' ⟨rfl,rfl⟩
 go_wp2_with fail
 refine(Oc _ _ _ _).mono ?_;rintro e w' ⟨rfl,hw'⟩;rw[show w'=W from hw'.trans HW.symm];clear hw' w' HW
 go_wp2_with fail
 refine HL.mono ?_;rintro e w' ⟨rfl,hw'⟩;rw[hw'];clear hw' w' HL
 go_wp2_with (at_make;refine wpList_make_full _ rfl _ _ 23 rfl W.heap.size 3 i0 (.int .i64 0) 1 Tryz.underlying23 hi hz0 hz1 _ _ _ _ n rfl rfl rfl rfl ?b2 ?b3 ?b4 ?_)
 case b2=>rw[hz2];omega
 case b3=>unfold maxLen;omega
 case b4=>exact nlr _
 intro w1 hown hgrow;have hb1:Below W.heap.size W w1:=(Below.refl _ _).grown hgrow (nlr _) (fun k hk=>by cases hk)
 have HOWN:Hid (w1.ownsRow W.heap.size 3 1 (.slice (some ⟨W.heap.size,0,none⟩) n n) n ((part f n 0).map (Value.int .i64))):=by
  rw[part_zero]
  first|(rw[made_ints]at hown;exact hown)|(rw[made_ints']at hown;exact hown)
 clear hown hgrow
 go_wp2_with fail
 go_loopw [21] (fun i wr=>∃k:Nat,k≤n∧i=.int .i64 k∧Hid (wr.ownsRow W.heap.size 3 1 (.slice (some ⟨W.heap.size,0,none⟩) n n) n ((part f n k).map (Value.int .i64)))∧Below W.heap.size W wr) (fun i _=>n - (intOf i).toNat)
 case atStart=>exact⟨0,Nat.zero_le _,rfl,HOWN,hb1⟩
 obtain⟨k,hk,rfl,hown,hbr⟩:=hrel;clear HOWN hb1
 by_cases hlt:k<n
 ·have hlt':(k:Int)<(n:Int):=by omega
  have G1:=Za (H1.out wr k hbr);have G2:=Za (H2.out wr k hbr);obtain⟨y,HY⟩:∃y,Hid (xs.getD k 0=y):=⟨_,rfl⟩;obtain⟨z,HZ⟩:∃y,Hid (ys.getD k 0=y):=⟨_,rfl⟩;rw[HY.out]at G1;rw[HZ.out]at G2;have ce:∃q,wr.cell? ⟨W.heap.size,k,none⟩=some q:=⟨_,by rw[hown.out.cellAt k (by omega),List.getElem?_map,List.getElem?_eq_getElem (by rw[part_length];omega)];rfl⟩;obtain⟨q,cq⟩:=ce;have cf:wr.frozen? ⟨W.heap.size,k,none⟩=false:=hown.out.frozenAt k
  go_wp2_with fail
  refine G1.mono ?_;rintro e w' ⟨rfl,hw'⟩;rw[hw'];clear hw' w'
  go_wp2_with fail
  refine G2.mono ?_;rintro e w' ⟨rfl,hw'⟩;rw[hw'];clear hw' w'
  go_wp2_with fail
  refine(fn_meet _ _ _).mono ?_;rintro e w' ⟨rfl,hw'⟩;rw[hw'];clear hw' w'
  go_wp2_with fail
  go_roundw
  case rel=>
   refine⟨k+1,by omega,by go_num,Za ?_,hbr.setCell (nlr _) _⟩;have ef:On y z=f k:=by rw[HF.out];show _=On (xs.getD k 0) (ys.getD k 0);rw[HY.out,HZ.out]
   have:=(hown.out.stored k (.int .i64 (On y z))).1;rw[←List.map_set,ef,part_set]at this;rw[ef];exact this
  case measure=>simp[intOf];omega
 have hlt':¬(k:Int)<(n:Int):=by omega
 have hkn:k=n:=by omega
 subst hkn
 go_wp2_with fail
 go_ret
 refine⟨_,rfl,?_,hb.trans (hbr.mono (by have:=HSZ.out;omega))⟩;have:=hown.out;rw[part_full,HF.out]at this;have hl:(Vt xs ys).length=k:=by rw[Ox];exact HN.out
 have e:(Vt xs ys)=(List.range k).map fun i=>On (xs.getD i 0) (ys.getD i 0):=by unfold Vt;rw[HN.out]
 refine Own.mono (B:=W.heap.size) ?_ (by have:=HSZ.out;omega);unfold Own;rw[hl,e];exact this

theorem meet_clock(v u:Value)(xs ys:List Int)(w:World)(h:Row w v xs)(hu:Row w u ys)(hr:xs.length*8≤140737488351232)(hr':ys.length*8≤140737488351232):
  Calls Tryz.prog 55 #[v,u] w fun e w'=>∃r,e=.returned r∧Own w' w.heap.size r (Vt xs ys)∧Below w.heap.size w w':=by
 have HH:=Za (combine_meet v u xs ys w h hu hr hr');clear h hu
 go_enter Tryz.func55,Tryz.ntmps55
 go_wp2_with fail
 refine HH.mono ?_;rintro e w' ⟨r,rfl,ho,hb⟩;have HO:=Za ho;clear ho
 go_wp2_with fail
 go_ret
 exact⟨_,rfl,HO.out,hb⟩
end Go.Proofs.YtfhecilhcofboaaGreat
