/- The document's own Sees, Join and Meet of two clocks. -/
import Derived.Test.YtfhecilhcofboaaGreatMix
namespace Go.Proofs.YtfhecilhcofboaaGreat
open Go.RowKit

set_option maxRecDepth 100000 in
set_option maxHeartbeats 400000 in
theorem sees_ref(v u:Value)(xs ys:List Int)(w:World)(h:Row w v xs)(hu:Row w u ys):
  Calls Tryz.prog 35 #[v,u] w fun e w'=>e=.returned (.bool (Ju xs ys))∧w'=w:=by
 have hbd:Vq xs ys≤9223372036854775807:=lenM_bd h.len_le hu.len_le;have HL:=Za (long_ref v u xs ys w h hu);have H1:=Za (fun k=>at_ref v xs k w h);have H2:=Za (fun k=>at_ref u ys k w hu);clear h hu
 go_enter Tryz.func35,Tryz.ntmps35
 go_wp2_with fail
 go_loop [5] (fun i=>∃k:Nat,k≤Vq xs ys∧i=.int .i64 k∧Hid (∀j,j<k→ys.getD j 0≤xs.getD j 0)) (fun i=>Vq xs ys - (intOf i).toNat)
 case atStart=>exact⟨0,Nat.zero_le _,rfl,Za (fun j hj=>by omega)⟩
 obtain⟨k,hk,rfl,hall⟩:=hrel
 by_cases hlt:k<Vq xs ys
 ·have hlt':(k:Int)<(Vq xs ys:Int):=by omega
  have G1:=Za (H1.out k);have G2:=Za (H2.out k);obtain⟨y,HY⟩:∃y,Hid (xs.getD k 0=y):=⟨_,rfl⟩;obtain⟨z,HZ⟩:∃y,Hid (ys.getD k 0=y):=⟨_,rfl⟩;rw[HY.out]at G1;rw[HZ.out]at G2
  by_cases hz:y<z
  ·go_wp2_with fail
   refine HL.mono ?_;rintro e w' ⟨rfl,hw'⟩;rw[hw'];clear hw' w'
   go_wp2_with fail
   refine G1.mono ?_;rintro e w' ⟨rfl,hw'⟩;rw[hw'];clear hw' w'
   go_wp2_with fail
   refine G2.mono ?_;rintro e w' ⟨rfl,hw'⟩;rw[hw'];clear hw' w'
   go_wp2_with fail
   go_ret
   exact⟨Jl (sees_one (k:=k) (by rw[HY.out,HZ.out];exact hz)),rfl⟩
  go_wp2_with fail
  refine HL.mono ?_;rintro e w' ⟨rfl,hw'⟩;rw[hw'];clear hw' w'
  go_wp2_with fail
  refine G1.mono ?_;rintro e w' ⟨rfl,hw'⟩;rw[hw'];clear hw' w'
  go_wp2_with fail
  refine G2.mono ?_;rintro e w' ⟨rfl,hw'⟩;rw[hw'];clear hw' w'
  go_wp2_with fail
  go_round
  case rel=>exact⟨k+1,by omega,by go_num,Za (fun j hj=>by
   by_cases e:j=k
   ·subst e;rw[HY.out,HZ.out];omega
   exact hall.out j (by omega))⟩
  case measure=>simp[intOf];omega
 have hlt':¬(k:Int)<(Vq xs ys:Int):=by omega
 go_wp2_with fail
 refine HL.mono ?_;rintro e w' ⟨rfl,hw'⟩;rw[hw'];clear hw' w'
 go_wp2_with fail
 go_ret
 exact⟨Jl (sees_all hlt hall.out),rfl⟩

def joinT(y z:Int):Prop:=y<z
def meetT(y z:Int):Prop:=z<y
theorem xL{xs:List Int}{k:Nat}{q:Int}(h:k<xs.length)(hq:xs.getD k 0=q):(xs.take k).map (Value.int .i64)++[Value.int .i64 q]=(xs.take (k+1)).map (Value.int .i64):=by
 rw[List.take_succ_eq_append_getElem h,List.map_append,←hq,Ui h];rfl

set_option maxRecDepth 100000 in
set_option maxHeartbeats 1000000 in
theorem join_ref(v u:Value)(xs ys:List Int)(w:World)(h:Row w v xs)(hu:Row w u ys)(hr:xs.length*8≤140737488351232)(hr':ys.length*8≤140737488351232):
  Calls Tryz.prog 52 #[v,u] w fun e w'=>∃r,e=.returned r∧Own w' w.heap.size r (joinC xs ys)∧Below w.heap.size w w':=by
 obtain⟨i0,hi,hz0,hz1,hz2⟩:=info_parts Tryz.infoInt;have hbd:Vq xs ys≤17592186043904:=lenM_bd (by omega) (by omega);obtain⟨n,HN⟩:∃n,Hid (Vq xs ys=n):=⟨_,rfl⟩
 have HL:Hid (∀wr,Below w.heap.size w wr→Calls Tryz.prog 78 #[v,u] wr fun e w'=>e=.returned (.int .i64 n)∧w'=wr):=fun wr hbr=>by
  have:=long_ref v u xs ys wr (h.below hbr (nlr _)) (hu.below hbr (nlr _));rw[HN.out]at this;exact this
 have H1:Hid (∀(wr:World) (k:Nat),Below w.heap.size w wr→Calls Tryz.prog 79 #[v,.int .i64 k] wr fun e w'=>e=.returned (.int .i64 (xs.getD k 0))∧w'=wr):=fun wr k hbr=>at_ref v xs k wr (h.below hbr (nlr _));have H2:Hid (∀(wr:World) (k:Nat),Below w.heap.size w wr→Calls Tryz.prog 79 #[u,.int .i64 k] wr fun e w'=>e=.returned (.int .i64 (ys.getD k 0))∧w'=wr):=fun wr k hbr=>at_ref u ys k wr (hu.below hbr (nlr _));have HJL:Hid ((joinC xs ys).length=n):=by unfold Hid;rw[Oz];exact HN.out
 obtain⟨PL,HPL⟩:∃PL:Nat→List Value,Hid (∀k,PL k=((joinC xs ys).take k).map (Value.int .i64)):=⟨_,fun _=>rfl⟩;rw[HN.out]at hbd;clear h hu hr hr'
 go_enter Tryz.func52,Tryz.ntmps52
 go_wp2_with fail
 go_loopw [5,6] (fun o i wr=>∃k:Nat,k≤n∧i=.int .i64 k∧Hid (wr.ownsRow w.heap.size 3 1 o k (PL k))∧Below w.heap.size w wr) (fun _ i _=>n - (intOf i).toNat)
 case atStart=>exact⟨0,Nat.zero_le _,rfl,Za (by rw[HPL.out 0];exact World.ownsRow_nil _ _ _ _),Below.refl _ _⟩
 obtain⟨k,hk,rfl,hown,hbr⟩:=hrel
 by_cases hlt:k<n
 ·have hlt':(k:Int)<(n:Int):=by omega
  have G0:=Za (HL.out wr hbr);have G1:=Za (H1.out wr k hbr);have G2:=Za (H2.out wr k hbr);have hq:=Vl xs ys k;obtain⟨y,HY⟩:∃y,Hid (xs.getD k 0=y):=⟨_,rfl⟩;obtain⟨z,HZ⟩:∃y,Hid (ys.getD k 0=y):=⟨_,rfl⟩;rw[HY.out]at G1 hq;rw[HZ.out]at G2 hq;have HQ:=Za hq;clear hq
  by_cases hz:Vb y z=z∧¬Vb y z=y
  ·have hz':(joinT y z):=by unfold joinT;have:=hz;unfold Vb at this;split at this <;> omega
   unfold joinT at hz';rw[hz.1]at HQ;clear hz
   go_wp2_with fail
   refine G0.mono ?_;rintro e w' ⟨rfl,hw'⟩;rw[hw'];clear hw' w'
   go_wp2_with fail
   refine G1.mono ?_;rintro e w' ⟨rfl,hw'⟩;rw[hw'];clear hw' w'
   go_wp2_with fail
   refine G2.mono ?_;rintro e w' ⟨rfl,hw'⟩;rw[hw'];clear hw' w'
   go_wp2_with fail
   refine G2.mono ?_;rintro e w' ⟨rfl,hw'⟩;rw[hw'];clear hw' w'
   go_wp2_with (at_builtin;refine wpList_append_own _ rfl (.tmp 26) (.tmp 28) 22 rfl w.heap.size 3 i0 (.int .i64 0) 1 8 Tryz.underlying22 hi hz0 hz1 hz2 rfl (by decide) _ _ _ rfl (hown.out.alloc _) ⟨wr.heap.size,0,none⟩ 1 1 [.int .i64 z] rfl rfl ?c1 ?c2 ?c3 ?c4 ?c5 ?_)
   case c1=>intro j q hj;match j,hj with|0,hj=>simp at hj;subst hj;simp[Addr.add]
   case c2=>intro q hj;simp at hj;subst hj;rfl
   case c3=>unfold maxLen;omega
   case c4=>omega
   case c5=>have:=hbr.size;simp;omega
   intro v' w1 hown' hgrow _;have hb1:Below w.heap.size w w1:=(hbr.alloc hbr.size _).grown hgrow (by have:=hbr.size;simp;omega) (fun g hg=>(hown.out.lt g hg).1);rw[HPL.out k,xL (by rw[HJL.out];exact hlt) HQ.out,←HPL.out (k+1)]at hown';have HOWN:=Za hown';clear hown' hgrow hown
   go_wp2_with fail
   go_roundw
   case rel=>exact⟨k+1,by omega,by go_num,HOWN,hb1⟩
   case measure=>simp[intOf];omega
  have hz':¬(joinT y z):=by unfold joinT;have:=hz;unfold Vb at this;split at this <;> omega
  have hz2:Vb y z=y:=by unfold joinT at hz';unfold Vb;split <;> omega
  unfold joinT at hz';rw[hz2]at HQ;clear hz hz2
  go_wp2_with fail
  refine G0.mono ?_;rintro e w' ⟨rfl,hw'⟩;rw[hw'];clear hw' w'
  go_wp2_with fail
  refine G1.mono ?_;rintro e w' ⟨rfl,hw'⟩;rw[hw'];clear hw' w'
  go_wp2_with fail
  refine G2.mono ?_;rintro e w' ⟨rfl,hw'⟩;rw[hw'];clear hw' w'
  go_wp2_with (at_builtin;refine wpList_append_own _ rfl (.tmp 26) (.tmp 28) 22 rfl w.heap.size 3 i0 (.int .i64 0) 1 8 Tryz.underlying22 hi hz0 hz1 hz2 rfl (by decide) _ _ _ rfl (hown.out.alloc _) ⟨wr.heap.size,0,none⟩ 1 1 [.int .i64 y] rfl rfl ?d1 ?d2 ?d3 ?d4 ?d5 ?_)
  case d1=>intro j q hj;match j,hj with|0,hj=>simp at hj;subst hj;simp[Addr.add]
  case d2=>intro q hj;simp at hj;subst hj;rfl
  case d3=>unfold maxLen;omega
  case d4=>omega
  case d5=>have:=hbr.size;simp;omega
  intro v' w1 hown' hgrow _;have hb1:Below w.heap.size w w1:=(hbr.alloc hbr.size _).grown hgrow (by have:=hbr.size;simp;omega) (fun g hg=>(hown.out.lt g hg).1);rw[HPL.out k,xL (by rw[HJL.out];exact hlt) HQ.out,←HPL.out (k+1)]at hown';have HOWN:=Za hown';clear hown' hgrow hown
  go_wp2_with fail
  go_roundw
  case rel=>exact⟨k+1,by omega,by go_num,HOWN,hb1⟩
  case measure=>simp[intOf];omega
 have hlt':¬(k:Int)<(n:Int):=by omega
 have hkn:k=n:=by omega
 subst hkn
 go_wp2_with fail
 refine(HL.out wr hbr).mono ?_;rintro e w' ⟨rfl,hw'⟩;rw[hw'];clear hw' w'
 go_wp2_with fail
 go_ret
 refine⟨_,rfl,?_,hbr⟩;unfold Own;have:=hown.out;rw[HPL.out,List.take_of_length_le (by rw[HJL.out];omega)]at this;rw[HJL.out];exact this
set_option maxRecDepth 100000 in
set_option maxHeartbeats 1000000 in
theorem meet_ref(v u:Value)(xs ys:List Int)(w:World)(h:Row w v xs)(hu:Row w u ys)(hr:xs.length*8≤140737488351232)(hr':ys.length*8≤140737488351232):
  Calls Tryz.prog 57 #[v,u] w fun e w'=>∃r,e=.returned r∧Own w' w.heap.size r (Vt xs ys)∧Below w.heap.size w w':=by
 obtain⟨i0,hi,hz0,hz1,hz2⟩:=info_parts Tryz.infoInt;have hbd:Vq xs ys≤17592186043904:=lenM_bd (by omega) (by omega);obtain⟨n,HN⟩:∃n,Hid (Vq xs ys=n):=⟨_,rfl⟩
 have HL:Hid (∀wr,Below w.heap.size w wr→Calls Tryz.prog 78 #[v,u] wr fun e w'=>e=.returned (.int .i64 n)∧w'=wr):=fun wr hbr=>by
  have:=long_ref v u xs ys wr (h.below hbr (nlr _)) (hu.below hbr (nlr _));rw[HN.out]at this;exact this
 have H1:Hid (∀(wr:World) (k:Nat),Below w.heap.size w wr→Calls Tryz.prog 79 #[v,.int .i64 k] wr fun e w'=>e=.returned (.int .i64 (xs.getD k 0))∧w'=wr):=fun wr k hbr=>at_ref v xs k wr (h.below hbr (nlr _));have H2:Hid (∀(wr:World) (k:Nat),Below w.heap.size w wr→Calls Tryz.prog 79 #[u,.int .i64 k] wr fun e w'=>e=.returned (.int .i64 (ys.getD k 0))∧w'=wr):=fun wr k hbr=>at_ref u ys k wr (hu.below hbr (nlr _));have HJL:Hid ((Vt xs ys).length=n):=by unfold Hid;rw[Ox];exact HN.out
 obtain⟨PL,HPL⟩:∃PL:Nat→List Value,Hid (∀k,PL k=((Vt xs ys).take k).map (Value.int .i64)):=⟨_,fun _=>rfl⟩;rw[HN.out]at hbd;clear h hu hr hr'
 go_enter Tryz.func57,Tryz.ntmps57
 go_wp2_with fail
 go_loopw [5,6] (fun o i wr=>∃k:Nat,k≤n∧i=.int .i64 k∧Hid (wr.ownsRow w.heap.size 3 1 o k (PL k))∧Below w.heap.size w wr) (fun _ i _=>n - (intOf i).toNat)
 case atStart=>exact⟨0,Nat.zero_le _,rfl,Za (by rw[HPL.out 0];exact World.ownsRow_nil _ _ _ _),Below.refl _ _⟩
 obtain⟨k,hk,rfl,hown,hbr⟩:=hrel
 by_cases hlt:k<n
 ·have hlt':(k:Int)<(n:Int):=by omega
  have G0:=Za (HL.out wr hbr);have G1:=Za (H1.out wr k hbr);have G2:=Za (H2.out wr k hbr);have hq:=meetC_getD xs ys k;obtain⟨y,HY⟩:∃y,Hid (xs.getD k 0=y):=⟨_,rfl⟩;obtain⟨z,HZ⟩:∃y,Hid (ys.getD k 0=y):=⟨_,rfl⟩;rw[HY.out]at G1 hq;rw[HZ.out]at G2 hq;have HQ:=Za hq;clear hq
  by_cases hz:On y z=z∧¬On y z=y
  ·have hz':(meetT y z):=by unfold meetT;have:=hz;unfold On at this;split at this <;> omega
   unfold meetT at hz';rw[hz.1]at HQ;clear hz
   go_wp2_with fail
   refine G0.mono ?_;rintro e w' ⟨rfl,hw'⟩;rw[hw'];clear hw' w'
   go_wp2_with fail
   refine G1.mono ?_;rintro e w' ⟨rfl,hw'⟩;rw[hw'];clear hw' w'
   go_wp2_with fail
   refine G2.mono ?_;rintro e w' ⟨rfl,hw'⟩;rw[hw'];clear hw' w'
   go_wp2_with fail
   refine G2.mono ?_;rintro e w' ⟨rfl,hw'⟩;rw[hw'];clear hw' w'
   go_wp2_with (at_builtin;refine wpList_append_own _ rfl (.tmp 26) (.tmp 28) 22 rfl w.heap.size 3 i0 (.int .i64 0) 1 8 Tryz.underlying22 hi hz0 hz1 hz2 rfl (by decide) _ _ _ rfl (hown.out.alloc _) ⟨wr.heap.size,0,none⟩ 1 1 [.int .i64 z] rfl rfl ?c1 ?c2 ?c3 ?c4 ?c5 ?_)
   case c1=>intro j q hj;match j,hj with|0,hj=>simp at hj;subst hj;simp[Addr.add]
   case c2=>intro q hj;simp at hj;subst hj;rfl
   case c3=>unfold maxLen;omega
   case c4=>omega
   case c5=>have:=hbr.size;simp;omega
   intro v' w1 hown' hgrow _;have hb1:Below w.heap.size w w1:=(hbr.alloc hbr.size _).grown hgrow (by have:=hbr.size;simp;omega) (fun g hg=>(hown.out.lt g hg).1);rw[HPL.out k,xL (by rw[HJL.out];exact hlt) HQ.out,←HPL.out (k+1)]at hown';have HOWN:=Za hown';clear hown' hgrow hown
   go_wp2_with fail
   go_roundw
   case rel=>exact⟨k+1,by omega,by go_num,HOWN,hb1⟩
   case measure=>simp[intOf];omega
  have hz':¬(meetT y z):=by unfold meetT;have:=hz;unfold On at this;split at this <;> omega
  have hz2:On y z=y:=by unfold meetT at hz';unfold On;split <;> omega
  unfold meetT at hz';rw[hz2]at HQ;clear hz hz2
  go_wp2_with fail
  refine G0.mono ?_;rintro e w' ⟨rfl,hw'⟩;rw[hw'];clear hw' w'
  go_wp2_with fail
  refine G1.mono ?_;rintro e w' ⟨rfl,hw'⟩;rw[hw'];clear hw' w'
  go_wp2_with fail
  refine G2.mono ?_;rintro e w' ⟨rfl,hw'⟩;rw[hw'];clear hw' w'
  go_wp2_with (at_builtin;refine wpList_append_own _ rfl (.tmp 26) (.tmp 28) 22 rfl w.heap.size 3 i0 (.int .i64 0) 1 8 Tryz.underlying22 hi hz0 hz1 hz2 rfl (by decide) _ _ _ rfl (hown.out.alloc _) ⟨wr.heap.size,0,none⟩ 1 1 [.int .i64 y] rfl rfl ?d1 ?d2 ?d3 ?d4 ?d5 ?_)
  case d1=>intro j q hj;match j,hj with|0,hj=>simp at hj;subst hj;simp[Addr.add]
  case d2=>intro q hj;simp at hj;subst hj;rfl
  case d3=>unfold maxLen;omega
  case d4=>omega
  case d5=>have:=hbr.size;simp;omega
  intro v' w1 hown' hgrow _;have hb1:Below w.heap.size w w1:=(hbr.alloc hbr.size _).grown hgrow (by have:=hbr.size;simp;omega) (fun g hg=>(hown.out.lt g hg).1);rw[HPL.out k,xL (by rw[HJL.out];exact hlt) HQ.out,←HPL.out (k+1)]at hown';have HOWN:=Za hown';clear hown' hgrow hown
  go_wp2_with fail
  go_roundw
  case rel=>exact⟨k+1,by omega,by go_num,HOWN,hb1⟩
  case measure=>simp[intOf];omega
 have hlt':¬(k:Int)<(n:Int):=by omega
 have hkn:k=n:=by omega
 subst hkn
 go_wp2_with fail
 refine(HL.out wr hbr).mono ?_;rintro e w' ⟨rfl,hw'⟩;rw[hw'];clear hw' w'
 go_wp2_with fail
 go_ret
 refine⟨_,rfl,?_,hbr⟩;unfold Own;have:=hown.out;rw[HPL.out,List.take_of_length_le (by rw[HJL.out];omega)]at this;rw[HJL.out];exact this
end Go.Proofs.YtfhecilhcofboaaGreat
