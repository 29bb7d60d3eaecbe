/- The document's own SameLog answers true of two logs that read as the same updates. -/
import Derived.Test.YtfhecilhcofboaaGreatLogC
namespace Go.Proofs.YtfhecilhcofboaaGreat
open Go.RowKit

set_option maxRecDepth 100000 in
set_option maxHeartbeats 4000000 in
theorem sameLog_yes(va vb:Value)(l:List Upd)(w:World)(ha:Vh w va l)(hb:Vh w vb l):
  Calls Tryz.prog 26 #[va,vb] w fun e w'=>e=.returned (.bool true)∧Below w.heap.size w w':=by
 have hlen:=ha.len_le;obtain⟨a,cap,rfl,-,-,-⟩:=id ha;obtain⟨a',cap',rfl,-,-,-⟩:=id hb;have HA:=Za ha;have HB:=Za hb;have hne:((l.length:Int) != (l.length:Int))=false:=by simp
 clear ha hb
 go_enter Tryz.func26,Tryz.ntmps26
 go_wp2_with fail
 go_loopw [13] (fun i wr=>∃k:Nat,k≤l.length∧i=.int .i64 k∧Hid (Below w.heap.size w wr)) (fun i _=>l.length - (intOf i).toNat)
 case atStart=>exact⟨0,Nat.zero_le _,rfl,Below.refl _ _⟩
 obtain⟨k,hk,rfl,HB0⟩:=hrel
 by_cases hlt:k<l.length
 ·obtain⟨u,hu⟩:∃u,l[k]? =some u:=⟨_,List.getElem?_eq_getElem hlt⟩;obtain⟨b,off,a5,cap5,rfl,d0,d1,d2,d3,d4,-,hU⟩:=(HA.below HB0.out (nlr _)).at hu;obtain⟨b',off',a6,cap6,rfl,e0,e1,e2,e3,e4,-,hU'⟩:=(HB.below HB0.out (nlr _)).at hu;have hlt':(k:Int)<(l.length:Int):=by omega
  have HK:Hid (∀w',Zh wr w'→w'.cell? ⟨b,off+k*5,none⟩=some (.int .i64 u.author)∧w'.cell? ⟨b,off+k*5+1,none⟩=some (.slice a5 u.seen.length cap5)∧w'.cell? ⟨b,off+k*5+2,none⟩=some (.int .i64 u.kind)∧w'.cell? ⟨b,off+k*5+3,none⟩=some (.int .i64 u.key)∧w'.cell? ⟨b,off+k*5+4,none⟩=some (.int .i64 u.item)∧w'.cell? ⟨b',off'+k*5,none⟩=some (.int .i64 u.author)∧w'.cell? ⟨b',off'+k*5+1,none⟩=some (.slice a6 u.seen.length cap6)∧w'.cell? ⟨b',off'+k*5+2,none⟩=some (.int .i64 u.kind)∧w'.cell? ⟨b',off'+k*5+3,none⟩=some (.int .i64 u.key)∧w'.cell? ⟨b',off'+k*5+4,none⟩=some (.int .i64 u.item)):=fun w' hg=>by
   refine⟨?_,?_,?_,?_,?_,?_,?_,?_,?_,?_⟩
   ·exact(hg.cell (World.block_lt_of_cell? wr _ d0)).trans d0
   ·exact(hg.cell (World.block_lt_of_cell? wr _ d1)).trans d1
   ·exact(hg.cell (World.block_lt_of_cell? wr _ d2)).trans d2
   ·exact(hg.cell (World.block_lt_of_cell? wr _ d3)).trans d3
   ·exact(hg.cell (World.block_lt_of_cell? wr _ d4)).trans d4
   ·exact(hg.cell (World.block_lt_of_cell? wr _ e0)).trans e0
   ·exact(hg.cell (World.block_lt_of_cell? wr _ e1)).trans e1
   ·exact(hg.cell (World.block_lt_of_cell? wr _ e2)).trans e2
   ·exact(hg.cell (World.block_lt_of_cell? wr _ e3)).trans e3
   exact(hg.cell (World.block_lt_of_cell? wr _ e4)).trans e4
  have HS:Hid (∀w',Zh wr w'→Calls Tryz.prog 62 #[.agg #[.int .i64 u.author,.slice a5 u.seen.length cap5,.int .i64 u.kind,.int .i64 u.key,.int .i64 u.item],.agg #[.int .i64 u.author,.slice a6 u.seen.length cap6,.int .i64 u.kind,.int .i64 u.key,.int .i64 u.item]] w' fun e w''=>e=.returned (.bool true)∧Zh wr w''):=fun w' hg=>by
   refine(sameUpdate_ref _ _ u u w' (hU.below hg (nlr _)) (hU'.below hg (nlr _))).mono ?_;rintro e w'' ⟨rfl,hb⟩;exact⟨by rw[sameU_self],Zd hg hb⟩
  clear hU hU' d0 d1 d2 d3 d4 e0 e1 e2 e3 e4
  go_upto_region 6 with fail
  go_cut [25] (fun c wx=>c=.bool false∧Hid (Zh wr wx))
  case first=>
   go_region_held3 (fun w'=>w'.cell? ⟨b,off+k*5,none⟩=some (.int .i64 u.author)∧w'.cell? ⟨b,off+k*5+1,none⟩=some (.slice a5 u.seen.length cap5)∧w'.cell? ⟨b,off+k*5+2,none⟩=some (.int .i64 u.kind)∧w'.cell? ⟨b,off+k*5+3,none⟩=some (.int .i64 u.key)∧w'.cell? ⟨b,off+k*5+4,none⟩=some (.int .i64 u.item)∧w'.cell? ⟨b',off'+k*5,none⟩=some (.int .i64 u.author)∧w'.cell? ⟨b',off'+k*5+1,none⟩=some (.slice a6 u.seen.length cap6)∧w'.cell? ⟨b',off'+k*5+2,none⟩=some (.int .i64 u.kind)∧w'.cell? ⟨b',off'+k*5+3,none⟩=some (.int .i64 u.key)∧w'.cell? ⟨b',off'+k*5+4,none⟩=some (.int .i64 u.item))
    ((refine HK.out _ ?_;(first|assumption|exact Zf (Zi _)|exact Zf (by assumption))))
    (first|(go_at_call 62;refine(HS.out _ ?_).mono ?_;(first|assumption|exact Zf (Zi _)|exact Zf (by assumption));rintro e w' ⟨rfl,hgr⟩))
   all_goals (go_wp2_with fail;go_meet;exact⟨by simp,by assumption⟩)
  obtain⟨rfl,HGR⟩:=hcut
  go_wp2_with fail
  go_roundw
  case rel=>exact⟨k+1,by omega,by go_num,Za (Zb HB0.out HGR.out)⟩
  case measure=>simp[intOf];omega
 have hlt':¬(k:Int)<(l.length:Int):=by omega
 go_wp2_with fail
 go_ret
 exact⟨rfl,HB0.out⟩
end Go.Proofs.YtfhecilhcofboaaGreat
