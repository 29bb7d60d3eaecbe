/- The document's own answer to what is wrong with an update, for every update and every number of authors; and Seq, SameUpdate. -/
import Derived.Test.YtfhecilhcofboaaGreatUpd
import Derived.Test.YtfhecilhcofboaaGreatReads
namespace Go.Proofs.YtfhecilhcofboaaGreat
open Go.RowKit

set_option maxRecDepth 100000 in
set_option maxHeartbeats 1000000 in
theorem wrongU_ref(v:Value)(u:Upd)(n:Int)(w:World)(h:Jf w v u):
  Calls Tryz.prog 53 #[v,.int .i64 n] w fun e w'=>e=.returned (.int .i64 (Zz u n))∧Below w.heap.size w w':=by
 obtain⟨sv,rfl,hs⟩:=h;have ways:=zY u n
 generalize HU:Zz u n=r at ways
 clear HU;obtain⟨author,seen,kind,key,item⟩:=u
 simp only at hs ways ⊢
 have HR:=Za (hs.alloc (.cells #[.int .i64 author,sv,.int .i64 kind,.int .i64 key,.int .i64 item] 33));have HBox:=Za (Box.new w [.int .i64 author,sv,.int .i64 kind,.int .i64 key,.int .i64 item] 33);have HB:=Za (bpl w (.cells #[.int .i64 author,sv,.int .i64 kind,.int .i64 key,.int .i64 item] 33));clear hs
 rcases ways with⟨hw,rfl⟩|⟨hw,ways⟩
 ·have hne:(Zn seen n != 0)=true:=by simp[hw]
  clear hw
  go_enter Tryz.func53,Tryz.ntmps53
  go_wp2_with fail
  refine(Xy _ seen n _ HR.out).mono ?_;rintro e w1 ⟨rfl,hw1⟩;rw[←hw1]at HB;clear hw1 HR HBox
  go_wp2
  go_ret
  exact⟨rfl,HB.out⟩
 obtain⟨-,-,hl,-⟩:=Yq hw;have HW:=Za hw;clear hw
 rcases ways with⟨ha,rfl⟩|⟨ha0,ha,rfl⟩|⟨ha0,ha,ways⟩
 ·go_enter Tryz.func53,Tryz.ntmps53
  go_wp2_with fail
  refine(Xy _ seen n _ HR.out).mono ?_;rintro e w1 ⟨rfl,hw1⟩;rw[HW.out];rw[←hw1]at HB HR HBox;clear hw1 HW;obtain⟨c0,c1,c2,c3,c4⟩:=HBox.c5;clear HBox;clear HR
  go_wp2
  go_ret
  exact⟨rfl,HB.out⟩
 ·go_enter Tryz.func53,Tryz.ntmps53
  go_wp2_with fail
  refine(Xy _ seen n _ HR.out).mono ?_;rintro e w1 ⟨rfl,hw1⟩;rw[HW.out];rw[←hw1]at HB HR HBox;clear hw1 HW;obtain⟨c0,c1,c2,c3,c4⟩:=HBox.c5;clear HBox;clear HR
  go_wp2
  go_ret
  exact⟨rfl,HB.out⟩
 obtain⟨k,rfl⟩:∃k:Nat,author=k:=⟨author.toNat,by omega⟩;rw[Int.toNat_natCast]at ways;have hlt:k<seen.length:=by omega
 have hlt2:(k:Int)<(seen.length:Int):=by omega
 obtain⟨y,HY⟩:∃y,Hid (seen.getD k 0=y):=⟨_,rfl⟩;rw[HY.out]at ways
 rcases ways with⟨hy,rfl⟩|⟨hy,ways⟩
 ·have hy2:1000≤y:=by omega
  clear hy
  go_enter Tryz.func53,Tryz.ntmps53
  go_wp2_with fail
  refine(Xy _ seen n _ HR.out).mono ?_;rintro e w1 ⟨rfl,hw1⟩;rw[HW.out];rw[←hw1]at HB HR HBox;clear hw1 HW;obtain⟨c0,c1,c2,c3,c4⟩:=HBox.c5;clear HBox;obtain⟨a,cap,hsv,hl',hm',hc⟩:=HR.out;clear HR hl' hm';obtain⟨b,off,rfl,hcell⟩:=hc k hlt;subst hsv;rw[HY.out]at hcell;clear hc HY
  go_wp2
  go_ret
  exact⟨rfl,HB.out⟩
 rcases ways with⟨hk,rfl⟩|⟨hk1,hk,rfl⟩|⟨hk1,hk5,ways⟩
 ·go_enter Tryz.func53,Tryz.ntmps53
  go_wp2_with fail
  refine(Xy _ seen n _ HR.out).mono ?_;rintro e w1 ⟨rfl,hw1⟩;rw[HW.out];rw[←hw1]at HB HR HBox;clear hw1 HW;obtain⟨c0,c1,c2,c3,c4⟩:=HBox.c5;clear HBox;obtain⟨a,cap,hsv,hl',hm',hc⟩:=HR.out;clear HR hl' hm';obtain⟨b,off,rfl,hcell⟩:=hc k hlt;subst hsv;rw[HY.out]at hcell;clear hc HY
  go_wp2
  go_ret
  exact⟨rfl,HB.out⟩
 ·go_enter Tryz.func53,Tryz.ntmps53
  go_wp2_with fail
  refine(Xy _ seen n _ HR.out).mono ?_;rintro e w1 ⟨rfl,hw1⟩;rw[HW.out];rw[←hw1]at HB HR HBox;clear hw1 HW;obtain⟨c0,c1,c2,c3,c4⟩:=HBox.c5;clear HBox;obtain⟨a,cap,hsv,hl',hm',hc⟩:=HR.out;clear HR hl' hm';obtain⟨b,off,rfl,hcell⟩:=hc k hlt;subst hsv;rw[HY.out]at hcell;clear hc HY
  go_wp2
  go_ret
  exact⟨rfl,HB.out⟩
 rcases ways with⟨h3,rfl⟩|⟨h2,h3,rfl⟩|⟨h1,h2,h3,rfl⟩|⟨h0,h1,h2,h3,rfl⟩|⟨h0,h1,h2,h3,⟨rfl,h5,rfl⟩|⟨rfl,rfl,rfl⟩|⟨h4,rfl⟩⟩
 all_goals
  go_enter Tryz.func53,Tryz.ntmps53
  go_wp2_with fail
  refine(Xy _ seen n _ HR.out).mono ?_;rintro e w1 ⟨rfl,hw1⟩;rw[HW.out];rw[←hw1]at HB HR HBox;clear hw1 HW;obtain⟨c0,c1,c2,c3,c4⟩:=HBox.c5;clear HBox;obtain⟨a,cap,hsv,hl',hm',hc⟩:=HR.out;clear HR hl' hm';obtain⟨b,off,rfl,hcell⟩:=hc k hlt;subst hsv;rw[HY.out]at hcell;clear hc HY
  go_wp2
  go_ret
  exact⟨rfl,HB.out⟩

theorem seq_upd(v:Value)(u:Upd)(k:Nat)(y:Int)(w:World)(h:Jf w v u)(hk:u.author=k)(hlt:k<u.seen.length)(hy:u.seen.getD k 0=y)(hy0:0≤y)(hy1:y≤1000):
  Calls Tryz.prog 115 #[v] w fun e w'=>e=.returned (.int .i64 (y+1))∧Below w.heap.size w w':=by
 obtain⟨sv,rfl,hs⟩:=h;obtain⟨author,seen,kind,key,item⟩:=u
 simp only at hs hk hlt hy ⊢
 subst hk;have HR:=Za (hs.alloc (.cells #[.int .i64 k,sv,.int .i64 kind,.int .i64 key,.int .i64 item] 33));have HBox:=Za (Box.new w [.int .i64 k,sv,.int .i64 kind,.int .i64 key,.int .i64 item] 33);have HB:=Za (bpl w (.cells #[.int .i64 k,sv,.int .i64 kind,.int .i64 key,.int .i64 item] 33));have HY:=Za hy;clear hs hy
 go_enter Tryz.func115,Tryz.ntmps115
 go_wp2_with fail
 refine(Ye _ seen k _ HR.out (by omega) (by omega)).mono ?_;rintro e w1 ⟨rfl,hw1⟩;rw[←hw1]at HB HR HBox;clear hw1;obtain⟨c0,c1⟩:=HBox.c2;clear HBox;have hl:=HR.len_le;obtain⟨a,cap,hsv,hl',hm',hc⟩:=HR.out;clear HR hl' hm';obtain⟨b,off,rfl,hcell⟩:=hc k hlt;subst hsv;rw[HY.out]at hcell;clear hc HY;have hlt2:(k:Int)<(seen.length:Int):=by omega
 go_wp2
 go_ret
 exact⟨by go_num,HB.out⟩

set_option maxRecDepth 100000 in
set_option maxHeartbeats 1000000 in
theorem sameUpdate_ref(v v':Value)(u u':Upd)(w:World)(h:Jf w v u)(h':Jf w v' u'):
  Calls Tryz.prog 62 #[v,v'] w fun e w'=>e=.returned (.bool (sameU u u'))∧Below w.heap.size w w':=by
 obtain⟨sv,rfl,hs⟩:=h;obtain⟨sv',rfl,hs'⟩:=h';obtain⟨author,seen,kind,key,item⟩:=u;obtain⟨author',seen',kind',key',item'⟩:=u'
 simp only at hs hs' ⊢
 have HR:=Za ((hs.alloc (.cells #[.int .i64 author,sv,.int .i64 kind,.int .i64 key,.int .i64 item] 33)).alloc (.cells #[.int .i64 author',sv',.int .i64 kind',.int .i64 key',.int .i64 item'] 33));have HR':=Za ((hs'.alloc (.cells #[.int .i64 author,sv,.int .i64 kind,.int .i64 key,.int .i64 item] 33)).alloc (.cells #[.int .i64 author',sv',.int .i64 kind',.int .i64 key',.int .i64 item'] 33));have HB:=Za (Below.plus (bpl w (.cells #[.int .i64 author,sv,.int .i64 kind,.int .i64 key,.int .i64 item] 33)) (.cells #[.int .i64 author',sv',.int .i64 kind',.int .i64 key',.int .i64 item'] 33));clear hs hs';obtain⟨r,HU⟩:∃r,Hid (sameU ({author:=author,seen:=seen,kind:=kind,key:=key,item:=item}:Upd) {author:=author',seen:=seen',kind:=kind',key:=key',item:=item'}=r):=⟨_,rfl⟩;rw[HU.out]
 by_cases h1:author=author'
 ·by_cases h2:kind=kind'
  ·by_cases h3:key=key'
   ·by_cases h4:item=item'
    ·have e1:(author==author')=true:=by simp[h1]
     have e2:(kind==kind')=true:=by simp[h2]
     have e3:(key==key')=true:=by simp[h3]
     have e4:(item==item')=true:=by simp[h4]
     have HR0:Hid (decide (seen=seen')=r):=by rw[←HU.out];simp[sameU,h1,h2,h3,h4,Hid]
     clear h1 h2 h3 h4 HU
     go_enter Tryz.func62,Tryz.ntmps62
     go_wp2_with fail
     refine(same_ref _ _ seen seen' _ HR.out HR'.out).mono ?_;rintro e w1 ⟨rfl,hb⟩;rw[HR0.out];have HB1:=Za (Zb HB.out hb);clear HB hb HR HR'
     go_wp2
     go_ret
     exact⟨rfl,HB1.out⟩
    have e1:(author==author')=true:=by simp[h1]
    have e2:(kind==kind')=true:=by simp[h2]
    have e3:(key==key')=true:=by simp[h3]
    have e4:(item==item')=false:=by simp[h4]
    obtain rfl:r=false:=by rw[←HU.out];simp[sameU,h4]
    clear h1 h2 h3 h4 HU HR HR'
    go_enter Tryz.func62,Tryz.ntmps62
    go_wp2
    go_ret
    exact⟨rfl,HB.out⟩
   have e1:(author==author')=true:=by simp[h1]
   have e2:(kind==kind')=true:=by simp[h2]
   have e3:(key==key')=false:=by simp[h3]
   obtain rfl:r=false:=by rw[←HU.out];simp[sameU,h3]
   clear h1 h2 h3 HU HR HR'
   go_enter Tryz.func62,Tryz.ntmps62
   go_wp2
   go_ret
   exact⟨rfl,HB.out⟩
  have e1:(author==author')=true:=by simp[h1]
  have e2:(kind==kind')=false:=by simp[h2]
  obtain rfl:r=false:=by rw[←HU.out];simp[sameU,h2]
  clear h1 h2 HU HR HR'
  go_enter Tryz.func62,Tryz.ntmps62
  go_wp2
  go_ret
  exact⟨rfl,HB.out⟩
 have e1:(author==author')=false:=by simp[h1]
 obtain rfl:r=false:=by rw[←HU.out];simp[sameU,h1]
 clear h1 HU HR HR'
 go_enter Tryz.func62,Tryz.ntmps62
 go_wp2
 go_ret
 exact⟨rfl,HB.out⟩
end Go.Proofs.YtfhecilhcofboaaGreat
