/- Updates in a row of the call's own; update.Copy; log.Lacks. -/
import Derived.Test.YtfhecilhcofboaaGreatLogA
import Derived.Test.YtfhecilhcofboaaGreatGrow
namespace Go.Proofs.YtfhecilhcofboaaGreat
open Go.RowKit

theorem Tryz.infoUpd:(Tryz.prog.info? 33).map (fun i=>(i.zero,i.size,i.bytes))=some (some (.agg #[.int .i64 0,.slice none 0 0,.int .i64 0,.int .i64 0,.int .i64 0]),5,56):=by kernel_rfl
theorem Tryz.sizeUpd:(Tryz.prog.info? 33).map (·.size)=some 5:=by kernel_rfl

def Yn(u:Upd)(sv:Value):List Value:=[.int .i64 u.author,sv,.int .i64 u.kind,.int .i64 u.key,.int .i64 u.item]
def Um(ps:List (Upd×Value)):List Value:=ps.flatMap fun p=>Yn p.1 p.2
theorem cellsP_snoc(ps:List (Upd×Value))(u:Upd)(sv:Value):Um (ps++[(u,sv)])=Um ps++Yn u sv:=by simp[Um]
theorem cellsP_get:∀(ps:List (Upd×Value)) (i j:Nat) (p:Upd×Value),ps[i]? =some p→j<5→(Um ps)[i*5+j]? =(Yn p.1 p.2)[j]?
 |[],i,_,_,h,_=>by simp at h
 |q::r,0,j,p,h,hj=>by
  simp at h
  subst h;simp only[Um,List.flatMap_cons,Nat.zero_mul,Nat.zero_add];rw[List.getElem?_append_left (by simp[Yn];exact hj)]
 |q::r,i+1,j,p,h,hj=>by
  have ih:=cellsP_get r i j p (by simpa using h) hj;simp only[Um,List.flatMap_cons]at ih ⊢;rw[List.getElem?_append_right (by simp[Yn];omega)];rw[←ih]
  congr 1
  simp[Yn];omega

def OwnP(R:Value→List Int→Prop)(w:World)(B:Nat)(v:Value)(ps:List (Upd×Value)):Prop:=
 w.ownsRow B 33 5 v ps.length (Um ps)∧∀p ∈ ps,R p.2 p.1.seen

theorem Zp{w w':World}{B C:Nat}{e:TypeId}{size n:Nat}{v:Value}{xs:List Value}(h:w.ownsRow B e size v n xs)(hb:Below C w w')(hC:w.heap.size≤C):w'.ownsRow B e size v n xs:=by
 refine⟨h.1,?_⟩
 rcases h.2 with h1|⟨g,cap,cur,hv,hg,hh,r⟩
 ·exact Or.inl h1
 exact Or.inr ⟨g,cap,cur,hv,hg,by rw[hb.block g (Nat.lt_of_lt_of_le (lt_of_block hh) hC)];exact hh,r⟩
theorem OwnP.mono{R R':Value→List Int→Prop}{w:World}{B:Nat}{v:Value}{ps:List (Upd×Value)}(h:OwnP R w B v ps)(hR:∀sv xs,R sv xs→R' sv xs):OwnP R' w B v ps:=⟨h.1,fun p hp=>hR _ _ (h.2 p hp)⟩
theorem OwnP.step{R:Value→List Int→Prop}{w w':World}{B C:Nat}{v:Value}{ps:List (Upd×Value)}(h:OwnP R w B v ps)(hb:Below C w w')(hC:w.heap.size≤C):OwnP R w' B v ps:=⟨Zp h.1 hb hC,h.2⟩

theorem OwnP.log{R:Value→List Int→Prop}{w:World}{B:Nat}{v:Value}{ps:List (Upd×Value)}(h:OwnP R w B v ps)(hR:∀sv xs,R sv xs→Row w sv xs):Vh w v (ps.map (·.1)):=by
 obtain⟨h,hs⟩:=h;have hx:=h.1
 rcases h.2 with⟨rfl,h0⟩|⟨g,cap,cur,rfl,hg,hh,h1,h2,h3,h4⟩
 ·have:ps=[]:=List.eq_nil_of_length_eq_zero h0;subst this;exact Vh.nil _
 refine⟨some ⟨g,0,none⟩,cap,by simp,by simpa using h1,h2,fun i u hi=>⟨g,0,rfl,?_⟩⟩;simp only[List.getElem?_map,Option.map_eq_some_iff]at hi;obtain⟨p,hp,rfl⟩:=hi;have hil:i<ps.length:=(List.getElem?_eq_some_iff.1 hp).1
 have cell:∀j,j<5→w.cell? ⟨g,0+i*5+j,none⟩=(Yn p.1 p.2)[j]?:=by
  intro j hj;rw[Nat.zero_add,←cellsP_get ps i j p hp hj,←h4];have:i*5+j<ps.length*5:=by omega
  rw[List.getElem?_take_of_lt this]
  simp[World.cell?,hh]
 exact⟨p.2,hR _ _ (hs p (List.mem_of_getElem? hp)),cell 0 (by omega),cell 1 (by omega),cell 2 (by omega),cell 3 (by omega),cell 4 (by omega)⟩

theorem Own.grown{w w':World}{B C n:Nat}{sv v:Value}{xs:List Int}{cs:List Value}(h:Own w B sv xs)(hr:w.ownsRow C 33 5 v n cs)(hg:w.grownBy w' v.ownBlock):Own w' B sv xs:=by
 refine⟨h.1,?_⟩
 rcases h.2 with h1|⟨g,cap,cur,hv,hgB,hh,r⟩
 ·exact Or.inl h1
 refine Or.inr ⟨g,cap,cur,hv,hgB,?_,r⟩;rw[hg.block g (lt_of_block hh) ?_]
 ·exact hh
 intro e
 rcases hr.2 with⟨rfl,-⟩|⟨g',cap',cur',rfl,-,hh',-⟩
 ·simp[Value.ownBlock]at e
 simp only[Value.ownBlock,Option.some.injEq]at e;subst e;rw[hh]at hh'
 simp at hh'

set_option maxRecDepth 100000 in
set_option maxHeartbeats 1000000 in
theorem copy_upd(v:Value)(u:Upd)(w:World)(h:Jf w v u)(hr:u.seen.length*8≤140737488351232):
  Calls Tryz.prog 82 #[v] w fun e w'=>∃sv,e=.returned (.agg #[.int .i64 u.author,sv,.int .i64 u.kind,.int .i64 u.key,.int .i64 u.item])∧Own w' w.heap.size sv u.seen∧Below w.heap.size w w':=by
 have hin:=h;obtain⟨sv,rfl,hs⟩:=h;obtain⟨a5,cap5,rfl,-,-,-⟩:=id hs;have hb2:=Below.plus (bpl w (.cells #[.int .i64 u.author,.slice a5 u.seen.length cap5,.int .i64 u.kind,.int .i64 u.key,.int .i64 u.item] 33)) (.cells #[.int .i64 0,.slice none 0 0,.int .i64 0,.int .i64 0,.int .i64 0] 33);have S0:=Za (hs.below hb2 (nlr _));have X0:=Za ((Box.new w [.int .i64 u.author,.slice a5 u.seen.length cap5,.int .i64 u.kind,.int .i64 u.key,.int .i64 u.item] 33).plus (.cells #[.int .i64 0,.slice none 0 0,.int .i64 0,.int .i64 0,.int .i64 0] 33));have Z0:=Za (Box.new (w.alloc (.cells #[.int .i64 u.author,.slice a5 u.seen.length cap5,.int .i64 u.kind,.int .i64 u.key,.int .i64 u.item] 33)) [.int .i64 0,.slice none 0 0,.int .i64 0,.int .i64 0,.int .i64 0] 33);rw[World.size_alloc]at Z0;have HB0:=Za hb2;clear hin hs hb2
 go_enter Tryz.func82,Tryz.ntmps82
 go_wp2_with fail
 refine(yO _ u.seen _ S0.out hr).mono ?_;rintro e w1 ⟨rfl,ho,hb⟩;have HO:=Za ho;have X1:=Za (X0.below hb (nlr _));have Z1:=Za (Z0.below hb (nlr _));have HB1:=Za (Zb HB0.out hb);clear ho hb X0 Z0 HB0 S0;rw[World.size_alloc,World.size_alloc]at HO ⊢;obtain⟨e0,e1,e2,e3,e4⟩:=X1.c5;have f1:=X1.free 1;obtain⟨d0,d1,d2,d3,d4⟩:=Z1.c5;have g0:=Z1.free 0;have g1:=Z1.free 1;have g2:=Z1.free 2;have g3:=Z1.free 3;have g4:=Z1.free 4
 go_wp2_with fail
 have hZ:=(((((Z1.away (g':=w.heap.size) (i:=1) (v:=.slice (some ⟨w.heap.size+1+1,0,none⟩) u.seen.length u.seen.length) (by omega)).set 0 (.int .i64 u.author)).set 1 (.slice (some ⟨w.heap.size+1+1,0,none⟩) u.seen.length u.seen.length)).set 2 (.int .i64 u.kind)).set 3 (.int .i64 u.key)).set 4 (.int .i64 u.item);refine bodyPost_ret (results_cell_row rfl _ _ (w.heap.size+1) 33 _ (0,0) _ rfl hZ Tryz.underlying33 rfl Tryz.sizeUpd) rfl ⟨_,rfl,?_,?_⟩
 ·refine Own.mono (B:=w.heap.size+1+1) ?_ (by omega)
  exact(((((HO.away (by omega) _ _).away (by omega) _ _).away (by omega) _ _).away (by omega) _ _).away (by omega) _ _).away (by omega) _ _
 exact(((((HB1.setCell (by show w.heap.size≤w.heap.size;omega) _).setCell (by show w.heap.size≤w.heap.size+1;omega) _).setCell (by show w.heap.size≤w.heap.size+1;omega) _).setCell (by show w.heap.size≤w.heap.size+1;omega) _).setCell (by show w.heap.size≤w.heap.size+1;omega) _).setCell (by show w.heap.size≤w.heap.size+1;omega) _

set_option maxRecDepth 100000 in
set_option maxHeartbeats 1000000 in
theorem lacks_fn(v:Value)(u:Upd)(g:Nat)(cv:Value)(xs:List Int)(w:World)(h:Jf w v u)(hg:Box w g [cv] 23)(hc:Row w cv xs)(hf:FitU u):
  Calls Tryz.prog 89 #[v,.pointer (some ⟨g,0,none⟩)] w fun e w'=>e=.returned (.bool (!Xu u xs))∧Below w.heap.size w w':=by
 have hin:=h;obtain⟨sv,rfl,hs⟩:=h;obtain⟨a5,cap5,rfl,-,-,-⟩:=id hs;obtain⟨a',cap',rfl,-,-,-⟩:=id hc;have U0:=Za (hin.below (bpl w (.cells #[.int .i64 u.author,.slice a5 u.seen.length cap5,.int .i64 u.kind,.int .i64 u.key,.int .i64 u.item] 33)) (nlr _));have C0:=Za (hc.alloc (.cells #[.int .i64 u.author,.slice a5 u.seen.length cap5,.int .i64 u.kind,.int .i64 u.key,.int .i64 u.item] 33));have G0:=Za (hg.plus (.cells #[.int .i64 u.author,.slice a5 u.seen.length cap5,.int .i64 u.kind,.int .i64 u.key,.int .i64 u.item] 33));have c0:=G0.get 0 rfl;have HB0:=Za (bpl w (.cells #[.int .i64 u.author,.slice a5 u.seen.length cap5,.int .i64 u.kind,.int .i64 u.key,.int .i64 u.item] 33));clear hin hs hc hg
 go_enter Tryz.func89,Tryz.ntmps89
 go_wp2_with fail
 refine(zI _ _ u xs _ U0.out C0.out hf).mono ?_;rintro e w1 ⟨rfl,hb⟩;have HB1:=Za (Zb HB0.out hb);clear hb HB0 U0 C0 G0 c0
 go_wp2_with fail
 go_ret
 exact⟨by simp,HB1.out⟩
end Go.Proofs.YtfhecilhcofboaaGreat
/- log.keep and log.Lacks: those updates of a log that a clock has not seen. -/
namespace Go.Proofs.YtfhecilhcofboaaGreat
open Go.RowKit

def Yc(l:List Upd)(xs:List Int):List Upd:=l.filter fun u=> !Xu u xs
theorem lacksL_take{l:List Upd}{k:Nat}{u:Upd}(xs:List Int)(h:l[k]? =some u):Yc (l.take (k+1)) xs=if Xu u xs then Yc (l.take k) xs else Yc (l.take k) xs++[u]:=by
 unfold Yc;rw[take_one h,List.filter_append]
 cases hs:Xu u xs <;> simp[hs]
def Small(u:Upd):Prop:=FitU u∧u.seen.length≤6
theorem small_of{u:Upd}{n:Int}(h:Zz u n=0):Small u:=by
 obtain⟨hcc,-⟩:=Xj h;have:=Yq hcc;exact⟨xY h,by omega⟩

theorem Vh.at{w:World}{a:Option Addr}{m c:Nat}{l:List Upd}(h:Vh w (.slice a m c) l){k:Nat}{u:Upd}(hu:l[k]? =some u):
  ∃b off a5 cap5,a=some ⟨b,off,none⟩∧w.cell? ⟨b,off+k*5,none⟩=some (.int .i64 u.author)∧w.cell? ⟨b,off+k*5+1,none⟩=some (.slice a5 u.seen.length cap5)∧w.cell? ⟨b,off+k*5+2,none⟩=some (.int .i64 u.kind)∧w.cell? ⟨b,off+k*5+3,none⟩=some (.int .i64 u.key)∧w.cell? ⟨b,off+k*5+4,none⟩=some (.int .i64 u.item)∧
   Row w (.slice a5 u.seen.length cap5) u.seen∧Jf w (.agg #[.int .i64 u.author,.slice a5 u.seen.length cap5,.int .i64 u.kind,.int .i64 u.key,.int .i64 u.item]) u:=by
 obtain⟨c1,c2,hv,hc2,hc3,hcell⟩:=h;obtain⟨b,off,rfl,sv,hsv,d0,d1,d2,d3,d4⟩:=hcell k u hu;obtain⟨a5,cap5,rfl,-,-,-⟩:=id hsv;simp only[Value.slice.injEq]at hv;obtain⟨rfl,-,rfl⟩:=hv;exact⟨b,off,a5,cap5,rfl,d0,d1,d2,d3,d4,hsv,_,rfl,hsv⟩

theorem Row.one{w:World}{v:Value}{xs:List Int}(h:Row w v xs):v.oneCell'=true:=by
 obtain⟨a,cap,rfl,-⟩:=h;rfl
theorem Ud{u:Upd}{sv:Value}(h:sv.oneCell'=true):∀q ∈ Yn u sv,q.oneCell'=true:=by
 intro q hq;simp only[Yn,List.mem_cons,List.not_mem_nil,or_false]at hq
 rcases hq with rfl|rfl|rfl|rfl|rfl
 ·rfl
 ·exact h
 ·rfl
 ·rfl
 rfl
def zX(w:World)(B:Nat)(v:Value)(ps:List (Upd×Value)):Prop:=OwnP (Own w B) w B v ps
theorem zX.below{w w':World}{B C:Nat}{v:Value}{ps:List (Upd×Value)}(h:zX w B v ps)(hb:Below C w w')(hC:w.heap.size≤C):zX w' B v ps:=
 ⟨Zp h.1 hb hC,fun p hp=>(h.2 p hp).below hb hC⟩
theorem zX.alloc{w:World}{B:Nat}{v:Value}{ps:List (Upd×Value)}(h:zX w B v ps)(o:Obj):zX (w.alloc o) B v ps:=h.below ((Below.refl w.heap.size _).alloc (nlr _) o) (nlr _)
theorem zX.log{w:World}{B:Nat}{v:Value}{ps:List (Upd×Value)}(h:zX w B v ps):Vh w v (ps.map (·.1)):=OwnP.log h fun _ _ h=>h.row
theorem zX.more{w w':World}{B:Nat}{v v' sv:Value}{ps:List (Upd×Value)}{u:Upd}(h:zX w B v ps)(hs:Own w B sv u.seen)(ho:w'.ownsRow B 33 5 v' (ps.length+1) (Um ps++Yn u sv))(hg:w.grownBy w' v.ownBlock):zX w' B v' (ps++[(u,sv)]):=by
 refine⟨by rw[cellsP_snoc];simpa using ho,fun p hp=>?_⟩
 rcases List.mem_append.1 hp with hp|hp
 ·exact(h.2 p hp).grown h.1 hg
 simp at hp;subst hp;exact hs.grown h.1 hg

end Go.Proofs.YtfhecilhcofboaaGreat
