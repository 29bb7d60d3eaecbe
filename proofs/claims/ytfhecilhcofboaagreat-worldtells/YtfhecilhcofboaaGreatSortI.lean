/- log.least: the place of the least author, of those that fit. -/
import Derived.Test.YtfhecilhcofboaaGreatLogC
import Derived.Test.YtfhecilhcofboaaGreatClone
import Derived.Deep.RegionWith
import Derived.Test.YtfhecilhcofboaaGreatLacksPure
namespace Go.Proofs.YtfhecilhcofboaaGreat
open Go.RowKit

section
variable {P:Program}{ops:Array Oper}{Q:Exit→Act→World→Prop}{md:Region.Mode}{S:World→Prop}
theorem take_yes(i d:Nat)(v:Value){oi:Oper}{fuel:Nat}{listed:Array Bool}{a:Act}{w:World}(hi:ops[i]? =some oi)(hd:oi.dst=some d)
  (hs:Region.noSelect ops=true) (hf:Region.free md ops listed i=true) (hr:(Region.ready md ops listed).contains i=true)
  (hQ:∀c a w,Q (.panic c) (a.put oi.dst v) w→Q (.panic c) a w) (hw:Region.wanted oi (yielded ops a.tmps)=true) (hy:∀w,S w→(execOp a.eval oi).run P w=.ok (.value v) w) (hS:S w)
  (h:wpAnyH P md ops Q S fuel (listed.setIfInBounds i true) (a.put (some d) v) w):wpAnyH P md ops Q S (fuel+1) listed a w:=
 wpAnyH_take hi hs hf hr hQ (Or.inl ⟨hw,hy⟩) hS (by rw[hd];exact h)
theorem take_skip(i d:Nat){oi:Oper}{fuel:Nat}{listed:Array Bool}{a:Act}{w:World}(hi:ops[i]? =some oi)(hd:oi.dst=some d)
  (hs:Region.noSelect ops=true) (hf:Region.free md ops listed i=true) (hr:(Region.ready md ops listed).contains i=true)
  (hQ:∀c a w,Q (.panic c) (a.put oi.dst undef) w→Q (.panic c) a w) (hw:Region.wanted oi (yielded ops a.tmps)=false) (hS:S w)
  (h:wpAnyH P md ops Q S fuel (listed.setIfInBounds i true) (a.put (some d) undef) w):wpAnyH P md ops Q S (fuel+1) listed a w:=
 wpAnyH_take hi hs hf hr hQ (Or.inr ⟨hw,rfl⟩) hS (by rw[hd];exact h)
theorem ty(i:Nat)(v:Value){d:Nat}{oi:Oper}{fuel:Nat}{listed:Array Bool}{a a':Act}{w:World}(h:wpAnyH P md ops Q S fuel (listed.setIfInBounds i true) a' w)
  (hi:ops[i]? =some oi:=by rfl) (hd:oi.dst=some d:=by rfl)
  (hs:(Region.noSelect ops&&(Region.free md ops listed i&&(Region.ready md ops listed).contains i))=true:=by kernel_rfl)
  (hQ:∀c a w,Q (.panic c) (a.put oi.dst v) w→Q (.panic c) a w:=by exact fun _ _ _ h=>h) (hw:Region.wanted oi (yielded ops a.tmps)=true:=by rfl)
  (hy:∀w,S w→(execOp a.eval oi).run P w=.ok (.value v) w:=by intro w hSw;(try dsimp only at hSw);go_simp) (hS:S w:=by assumption)
  (ha:a.put (some d) v=a':=by simp only[Act.put,Zt,Zs,Zr];exact rfl):wpAnyH P md ops Q S (fuel+1) listed a w:=by
 simp only[Bool.and_eq_true]at hs;exact take_yes i d v hi hd hs.1 hs.2.1 hs.2.2 hQ hw hy hS (by rw[ha];exact h)
theorem ts(i:Nat){d:Nat}{oi:Oper}{fuel:Nat}{listed:Array Bool}{a a':Act}{w:World}(h:wpAnyH P md ops Q S fuel (listed.setIfInBounds i true) a' w)
  (hi:ops[i]? =some oi:=by rfl) (hd:oi.dst=some d:=by rfl)
  (hs:(Region.noSelect ops&&(Region.free md ops listed i&&(Region.ready md ops listed).contains i))=true:=by kernel_rfl)
  (hQ:∀c a w,Q (.panic c) (a.put oi.dst undef) w→Q (.panic c) a w:=by exact fun _ _ _ h=>h) (hw:Region.wanted oi (yielded ops a.tmps)=false:=by rfl) (hS:S w:=by assumption)
  (ha:a.put (some d) undef=a':=by simp only[Act.put,Zt,Zs,Zr];exact rfl):wpAnyH P md ops Q S (fuel+1) listed a w:=by
 simp only[Bool.and_eq_true]at hs;exact take_skip i d hi hd hs.1 hs.2.1 hs.2.2 hQ hw hS (by rw[ha];exact h)
theorem rgn{id:Nat}{a:Act}{w:World}(hk:∀w',Zh w w'→S w')(h:∀wd,Zh w wd→S wd→wpAnyH P .any ops Q S ops.size (Array.replicate ops.size false) a wd)(hm:P.follows .mixedOrders=true:=by kernel_rfl):
  (Code.region id ops true).wp P Q a w:=wp_region_held_drew hm (hk _ (Zf (Zi _))) (h _ (Zf (Zi _)))
theorem wr{fuel:Nat}{listed:Array Bool}{a:Act}{w:World}(i:Nat){o:Oper}
  (h:∀K:Act→World→Prop,Shut (∀a w,S w→(S w→wpAnyH P md ops Q S fuel (listed.setIfInBounds i true) a w)→K a w)→if Region.wanted o (yielded ops a.tmps)=true then Oper.wp P o a w K Q else K (a.put o.dst undef) w)
  (ho:ops[i]? =some o:=by rfl) (hr:Region.ready md ops listed=[i]:=by kernel_rfl):wpAnyH P md ops Q S (fuel+1) listed a w:=wpAnyH_ready hr (by simp) (AllReadyH.cons ho h AllReadyH.nil)
theorem rdc{fuel:Nat}{listed:Array Bool}{a:Act}{w:World}{i:Nat}{o:Oper}{rs:List Nat}(ho:ops[i]? =some o)
  (h:∀K:Act→World→Prop,Shut (∀a w,S w→(S w→wpAnyH P md ops Q S fuel (listed.setIfInBounds i true) a w)→K a w)→if Region.wanted o (yielded ops a.tmps)=true then Oper.wp P o a w K Q else K (a.put o.dst undef) w)
  (hs:AllReadyH P md ops Q S fuel listed a w rs):AllReadyH P md ops Q S fuel listed a w (i::rs):=AllReadyH.cons ho h hs
theorem rd1{fuel:Nat}{listed:Array Bool}{a:Act}{w:World}{i:Nat}{o:Oper}(ho:ops[i]? =some o)
  (h:∀K:Act→World→Prop,Shut (∀a w,S w→(S w→wpAnyH P md ops Q S fuel (listed.setIfInBounds i true) a w)→K a w)→if Region.wanted o (yielded ops a.tmps)=true then Oper.wp P o a w K Q else K (a.put o.dst undef) w):
  AllReadyH P md ops Q S fuel listed a w [i]:=AllReadyH.cons ho h AllReadyH.nil
end

end Go.Proofs.YtfhecilhcofboaaGreat
/- What the loop of log.Sorted holds between two rounds, and how each step of a round turns it. -/
namespace Go.Proofs.YtfhecilhcofboaaGreat
open Go.RowKit

end Go.Proofs.YtfhecilhcofboaaGreat
/- log.Sorted: all of a log, one behind the other, at each place of those that fit the one of the least author. -/
namespace Go.Proofs.YtfhecilhcofboaaGreat
open Go.RowKit

end Go.Proofs.YtfhecilhcofboaaGreat
/- Sorted logs as lists: the same clock, the same updates, and sorted again the same. -/
namespace Go.Proofs.YtfhecilhcofboaaGreat
open Go.RowKit

theorem errL_split{n:Int}{xs:List Int}{p q:List Upd}(h:Xf n xs (p++q)=0):Xf n xs p=0∧Xf n (Ys xs p) q=0:=by
 rw[yG]at h
 split at h
 ·next h0=>exact⟨h0,h⟩
 next h0=>exact absurd h h0
end Go.Proofs.YtfhecilhcofboaaGreat
