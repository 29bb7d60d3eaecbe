/- slices.SortFunc over lives and over tallies, by the program's own orders: the same ones, sorted. -/
import Derived.Test.YtfhecilhcofboaaGreatStA
import Derived.Sort.Grow
import Derived.Test.YtfhecilhcofboaaGreatJoPure
import Derived.Test.YtfhecilhcofboaaGreatJoLay
import Derived.Shelf.SlSortCmp.NoneTotal
namespace Go.Proofs.YtfhecilhcofboaaGreat
open Go.RowKit Go.Shelf

def Ul(w w':World):Prop:=Zh w w'∧w.drawn≤w'.drawn
theorem Vz(w:World):Ul w w:=⟨Zi _,nlr _⟩
theorem Xw{w w1:World}(o:Obj)(h:Ul w w1):Ul w (w1.alloc o):=⟨Vm o h.1,h.2⟩
theorem Vn{w w1:World}(h:Ul w w1):Ul w w1.drew:=⟨Zf h.1,Nat.le_succ_of_le h.2⟩
theorem grewD_step{w w1 w2:World}(h:Ul w w1)(hb:Ul w1 w2):Ul w w2:=⟨Zd h.1 hb.1,Nat.le_trans h.2 hb.2⟩
theorem grow_of{w w':World}(h:Ul w w'):∃q os,w'=Go.Sort.grow (w.drewN q) os:=by
 refine⟨w'.drawn - w.drawn,w'.heap.extract w.heap.size w'.heap.size,?_⟩;obtain⟨⟨h1,h2,h3,h4,h5⟩,h6⟩:=h;obtain⟨hp,tp,dr,os,out⟩:=w;obtain⟨hp',tp',dr',os',out'⟩:=w'
 simp only at h1 h2 h3 h4 h5 h6
 subst h1 h2 h3;simp only[Go.Sort.grow,World.drewN,World.mk.injEq,and_true,true_and];refine⟨?_,by omega⟩;refine Array.ext' ?_;refine List.ext_getElem? (fun k=>?_)
 by_cases hk:k<hp.size
 ·have:=h5 k hk;rw[Array.getElem?_toList,Array.getElem?_toList,this,Array.getElem?_append_left hk]
 rw[Array.getElem?_toList,Array.getElem?_toList,Array.getElem?_append_right (by omega),Array.getElem?_extract]
 split
 ·congr 1
  omega
 rw[Array.getElem?_eq_none (by omega)]
set_option maxRecDepth 100000 in
set_option maxHeartbeats 400000 in
theorem half_gr(x:Zk)(w:World):Calls Tryz.prog 109 #[.agg #[.bool x.set,.int .i64 x.key,.int .i64 x.item,.int .i64 x.author,.int .i64 x.seq]] w fun e w'=>e=.returned (.int .i64 (Ov x.set))∧Ul w w':=by
 have hb:=Xw (.cells #[.bool x.set,.int .i64 x.key,.int .i64 x.item,.int .i64 x.author,.int .i64 x.seq] 106) (Vz w)
 cases hs:x.set
 ·rw[hs]at hb
  go_enter Tryz.func109,Tryz.ntmps109
  go_wp2
  go_ret
  exact⟨rfl,hb⟩
 rw[hs]at hb
 go_enter Tryz.func109,Tryz.ntmps109
 go_wp2
 go_ret
 exact⟨rfl,hb⟩
set_option maxRecDepth 100000 in
set_option maxHeartbeats 2000000 in
theorem compareLives_gr(x y:Zk)(w:World):Calls Tryz.prog 66 #[.agg #[.bool x.set,.int .i64 x.key,.int .i64 x.item,.int .i64 x.author,.int .i64 x.seq],.agg #[.bool y.set,.int .i64 y.key,.int .i64 y.item,.int .i64 y.author,.int .i64 y.seq]] w fun e w'=>e=.returned (.int .i64 (Yj x y))∧Ul w w':=by
 obtain⟨r,HR⟩:∃r,Hid (Yj x y=r):=⟨_,rfl⟩;rw[HR.out];obtain⟨W0,HW0⟩:∃W0,Hid ((w.alloc (.cells #[.bool x.set,.int .i64 x.key,.int .i64 x.item,.int .i64 x.author,.int .i64 x.seq] 106)).alloc (.cells #[.bool y.set,.int .i64 y.key,.int .i64 y.item,.int .i64 y.author,.int .i64 y.seq] 106)=W0):=⟨_,rfl⟩;have HB:Hid (Ul w W0):=by rw[←HW0.out];exact Xw _ (Xw _ (Vz w))
 have HX:Hid (Box W0 w.heap.size [.bool x.set,.int .i64 x.key,.int .i64 x.item,.int .i64 x.author,.int .i64 x.seq] 106):=by rw[←HW0.out];exact(Box.new w _ _).plus _
 have HY:Hid (Box W0 (w.heap.size+1) [.bool y.set,.int .i64 y.key,.int .i64 y.item,.int .i64 y.author,.int .i64 y.seq] 106):=by
  rw[←HW0.out];have h:=Box.new (w.alloc (.cells #[.bool x.set,.int .i64 x.key,.int .i64 x.item,.int .i64 x.author,.int .i64 x.seq] 106)) [.bool y.set,.int .i64 y.key,.int .i64 y.item,.int .i64 y.author,.int .i64 y.seq] 106;rw[World.size_alloc]at h;exact h
 obtain⟨g0,HG0⟩:∃g0,Hid (w.heap.size=g0):=⟨_,rfl⟩;rw[HG0.out]at HX HY
 have HK:Hid (∀w',Ul W0 w'→(w'.cell? ⟨g0,0,none⟩=some (.bool x.set)∧w'.cell? ⟨g0,1,none⟩=some (.int .i64 x.key)∧w'.cell? ⟨g0,2,none⟩=some (.int .i64 x.item)∧w'.cell? ⟨g0,3,none⟩=some (.int .i64 x.author)∧w'.cell? ⟨g0,4,none⟩=some (.int .i64 x.seq))∧
   w'.cell? ⟨g0+1,0,none⟩=some (.bool y.set)∧w'.cell? ⟨g0+1,1,none⟩=some (.int .i64 y.key)∧w'.cell? ⟨g0+1,2,none⟩=some (.int .i64 y.item)∧w'.cell? ⟨g0+1,3,none⟩=some (.int .i64 y.author)∧w'.cell? ⟨g0+1,4,none⟩=some (.int .i64 y.seq)):=
  fun w' hg=>⟨(HX.below hg.1 (nlr _)).reads,(HY.below hg.1 (nlr _)).reads⟩
 have H1:Hid (∀(z:Zk) w',Ul W0 w'→Calls Tryz.prog 109 #[.agg #[.bool z.set,.int .i64 z.key,.int .i64 z.item,.int .i64 z.author,.int .i64 z.seq]] w' fun e w''=>e=.returned (.int .i64 (Ov z.set))∧Ul W0 w''):=fun z w' hg=>by
  refine(half_gr z w').mono ?_;rintro e w'' ⟨rfl,hb⟩;exact⟨rfl,grewD_step hg hb⟩
 have H3:Hid (∀w',Ul W0 w'→Calls Tryz.prog 107 #[.slice (some ⟨w'.heap.size,0,none⟩) 5 5] (w'.alloc (.cells #[.int .i64 (Vw (Ov x.set) (Ov y.set)),.int .i64 (Vw x.key y.key),.int .i64 (Vw x.item y.item),.int .i64 (Vw x.author y.author),.int .i64 (Vw x.seq y.seq)] 3)) fun e w''=>e=.returned (.int .i64 r)∧Ul W0 w''):=fun w' hg=>by
  refine(or_fn _ [Vw (Ov x.set) (Ov y.set),Vw x.key y.key,Vw x.item y.item,Vw x.author y.author,Vw x.seq y.seq] _ (xN (n:=5) (Box.new w' _ _) rfl (by omega))).mono ?_;rintro e w'' ⟨rfl,rfl⟩;refine⟨?_,Xw _ hg⟩;rw[←HR.out];rfl
 clear HX HY HR
 go_enter Tryz.func66,Tryz.ntmps66
 go_upto_region 1 with fail
 rw[HW0.out,HG0.out]
 go_region_held3 (fun w'=>(w'.cell? ⟨g0,0,none⟩=some (.bool x.set)∧w'.cell? ⟨g0,1,none⟩=some (.int .i64 x.key)∧w'.cell? ⟨g0,2,none⟩=some (.int .i64 x.item)∧w'.cell? ⟨g0,3,none⟩=some (.int .i64 x.author)∧w'.cell? ⟨g0,4,none⟩=some (.int .i64 x.seq))∧
   w'.cell? ⟨g0+1,0,none⟩=some (.bool y.set)∧w'.cell? ⟨g0+1,1,none⟩=some (.int .i64 y.key)∧w'.cell? ⟨g0+1,2,none⟩=some (.int .i64 y.item)∧w'.cell? ⟨g0+1,3,none⟩=some (.int .i64 y.author)∧w'.cell? ⟨g0+1,4,none⟩=some (.int .i64 y.seq))
  ((refine HK.out _ ?_;(first|assumption|exact Vn (Vz _)|exact Vn (by assumption)|exact Xw _ (by assumption))))
  (first
   |(go_at_call 109;refine(H1.out _ _ ?_).mono ?_;(first|assumption|exact Vn (Vz _)|exact Vn (by assumption));rintro e w' ⟨rfl,hgr⟩)
   |(go_at_call 108;refine(xZ _ _ _).mono ?_;rintro e w' ⟨rfl,rfl⟩)
   |(go_at_call 107;refine(H3.out _ ?_).mono ?_;(first|assumption|exact Vn (Vz _)|exact Vn (by assumption));rintro e w' ⟨rfl,hgr⟩))
 all_goals (go_wp2_with fail;go_ret;exact⟨rfl,grewD_step HB.out (by assumption)⟩)
set_option maxRecDepth 100000 in
set_option maxHeartbeats 2000000 in
theorem compareTallies_gr(x y:Tal)(w:World):Calls Tryz.prog 70 #[.agg #[.int .i64 x.key,.int .i64 x.author,.int .i64 x.sum],.agg #[.int .i64 y.key,.int .i64 y.author,.int .i64 y.sum]] w fun e w'=>e=.returned (.int .i64 (Yr x y))∧Ul w w':=by
 obtain⟨r,HR⟩:∃r,Hid (Yr x y=r):=⟨_,rfl⟩;rw[HR.out];obtain⟨W0,HW0⟩:∃W0,Hid ((w.alloc (.cells #[.int .i64 x.key,.int .i64 x.author,.int .i64 x.sum] 108)).alloc (.cells #[.int .i64 y.key,.int .i64 y.author,.int .i64 y.sum] 108)=W0):=⟨_,rfl⟩;have HB:Hid (Ul w W0):=by rw[←HW0.out];exact Xw _ (Xw _ (Vz w))
 have HX:Hid (Box W0 w.heap.size [.int .i64 x.key,.int .i64 x.author,.int .i64 x.sum] 108):=by rw[←HW0.out];exact(Box.new w _ _).plus _
 have HY:Hid (Box W0 (w.heap.size+1) [.int .i64 y.key,.int .i64 y.author,.int .i64 y.sum] 108):=by
  rw[←HW0.out];have h:=Box.new (w.alloc (.cells #[.int .i64 x.key,.int .i64 x.author,.int .i64 x.sum] 108)) [.int .i64 y.key,.int .i64 y.author,.int .i64 y.sum] 108;rw[World.size_alloc]at h;exact h
 obtain⟨g0,HG0⟩:∃g0,Hid (w.heap.size=g0):=⟨_,rfl⟩;rw[HG0.out]at HX HY
 have HK:Hid (∀w',Ul W0 w'→(w'.cell? ⟨g0,0,none⟩=some (.int .i64 x.key)∧w'.cell? ⟨g0,1,none⟩=some (.int .i64 x.author))∧
   w'.cell? ⟨g0+1,0,none⟩=some (.int .i64 y.key)∧w'.cell? ⟨g0+1,1,none⟩=some (.int .i64 y.author)):=
  fun w' hg=>⟨⟨(HX.below hg.1 (nlr _)).get 0 rfl,(HX.below hg.1 (nlr _)).get 1 rfl⟩,(HY.below hg.1 (nlr _)).get 0 rfl,(HY.below hg.1 (nlr _)).get 1 rfl⟩
 have H3:Hid (∀w',Box w' W0.heap.size [.int .i64 (Vw x.key y.key),.int .i64 (Vw x.author y.author)] 3→Ul W0 w'→Calls Tryz.prog 107 #[.slice (some ⟨W0.heap.size,0,none⟩) 2 2] w' fun e w''=>e=.returned (.int .i64 r)∧Ul W0 w''):=fun w' hbx hg=>by
  refine(or_fn _ [Vw x.key y.key,Vw x.author y.author] _ (xN (n:=2) hbx rfl (by omega))).mono ?_;rintro e w'' ⟨rfl,rfl⟩;refine⟨?_,hg⟩;rw[←HR.out];rfl
 clear HX HY HR
 go_enter Tryz.func70,Tryz.ntmps70
 go_upto_region 1 with fail
 rw[HW0.out,HG0.out]
 go_region_held3 (fun w'=>(w'.cell? ⟨g0,0,none⟩=some (.int .i64 x.key)∧w'.cell? ⟨g0,1,none⟩=some (.int .i64 x.author))∧
   w'.cell? ⟨g0+1,0,none⟩=some (.int .i64 y.key)∧w'.cell? ⟨g0+1,1,none⟩=some (.int .i64 y.author))
  ((refine HK.out _ ?_;(first|assumption|exact Vn (Vz _)|exact Vn (by assumption)|exact Xw _ (by assumption)|exact Xw _ (Vn (Vz _)))))
  (first
   |(go_at_call 108;refine(xZ _ _ _).mono ?_;rintro e w' ⟨rfl,rfl⟩)
   |(go_at_call 107;refine(H3.out _ ?_ ?_).mono ?_;(exact Box.new W0 _ _);(first|exact Xw _ (Vn (Vz _))|exact Vn (Xw _ (Vz _)));rintro e w' ⟨rfl,hgr⟩))
 all_goals (go_wp2_with fail;go_ret;exact⟨rfl,grewD_step HB.out (by assumption)⟩)


section
variable {α:Type}{sz:Nat}{enc:α→List Value}{e:TypeId}
theorem flat_get[Inhabited α](he:∀x,(enc x).length=sz)(hs:0<sz)(d:Array α){t:Nat}(ht:t<d.size*sz):(cellsS enc d.toList)[t]? =some ((Go.Sort.flatK enc sz d)[t]!):=by
 have h1:t / sz<d.size:=Nat.div_lt_of_lt_mul (by rw[Nat.mul_comm];exact ht);have h2:t % sz<sz:=Nat.mod_lt _ hs;have h3:t / sz*sz+t % sz=t:=by rw[Nat.mul_comm];exact Nat.div_add_mod t sz
 have hx:d.toList[t / sz]? =some d[t / sz]!:=by
  rw[Array.getElem?_toList,Array.getElem?_eq_getElem h1,getElem!_pos d (t / sz) h1]
 have:=zT he d.toList (t / sz) (t % sz) _ hx h2;rw[h3]at this;rw[this,Go.Sort.get_flatK enc sz d t ht];have hl:(enc d[t / sz]!).length=sz:=he _
 generalize enc d[t / sz]! =q at hl
 rw[List.getElem?_eq_getElem (by rw[hl];exact h2),getElem!_pos q _ (by rw[hl];exact h2)]
theorem Zu.holdsK[Inhabited α](he:∀x,(enc x).length=sz)(hs:0<sz){w:World}{g cap:Nat}{l:List α}(h:Zu e sz enc w g cap l):Go.Sort.HoldsK enc sz w g 0 l.toArray:=by
 intro j hj;rw[Go.Sort.size_flatK]at hj;refine⟨?_,h.free _⟩;rw[Nat.zero_add,h.cell (by simpa using hj)];exact flat_get he hs l.toArray hj
theorem Zu.sorted[Inhabited α](he:∀x,(enc x).length=sz)(hs:0<sz){w:World}{g cap:Nat}{l:List α}(h:Zu e sz enc w g cap l)(hn:l.length≤cap){d:Array α}(hd:d.size=l.length)(n:Nat)(os:Array Obj):
  Zu e sz enc (sortWorldK enc sz w g 0 n d os) g cap d.toList∧Below g w (sortWorldK enc sz w g 0 n d os):=by
 have hlt:=h.lt;obtain⟨cur,h1,h2,h3⟩:=h
 have hheap:∀k,k<w.heap.size→(sortWorldK enc sz w g 0 n d os).heap[k]? =if g=k then(w.heap[k]?).map (Go.Sort.onCells (Go.Sort.putCells id 0 (Go.Sort.flatK enc sz d)))else w.heap[k]?:=by
  intro k hk;have e1:(sortWorldK enc sz w g 0 n d os).heap=(w.heap.modify g (Go.Sort.onCells (Go.Sort.putCells id 0 (Go.Sort.flatK enc sz d))))++os:=rfl;rw[e1,Array.getElem?_append_left (by simpa using hk),Array.getElem?_modify]
 constructor
 ·refine⟨Go.Sort.putCells id 0 (Go.Sort.flatK enc sz d) cur,?_,?_,?_⟩
  ·rw[hheap g hlt,if_pos rfl,h1];rfl
  ·rw[←h2]
   simp[Go.Sort.putCells]
  refine List.ext_getElem? (fun t=>?_);have hdl:d.toList.length=d.size:=by simp
  rw[hdl]
  by_cases ht:t<d.size*sz
  ·have htc:t<cur.size:=by
    rw[h2];exact Nat.lt_of_lt_of_le ht (Nat.mul_le_mul_right _ (by omega))
   rw[List.getElem?_take_of_lt ht,flat_get he hs d ht,Array.getElem?_toList];unfold Go.Sort.putCells;rw[Array.getElem?_mapIdx,Array.getElem?_eq_getElem htc];simp only[Option.map_some];rw[if_pos ⟨Nat.zero_le _,by rw[Go.Sort.size_flatK];omega⟩];rfl
  rw[List.getElem?_eq_none (by simp;omega),List.getElem?_eq_none (by rw[Zj he,hdl];omega)]
 refine⟨rfl,rfl,rfl,?_,fun k hk=>?_⟩
 ·have e1:(sortWorldK enc sz w g 0 n d os).heap=(w.heap.modify g (Go.Sort.onCells (Go.Sort.putCells id 0 (Go.Sort.flatK enc sz d))))++os:=rfl;rw[e1]
  simp
 rw[hheap k (by omega),if_neg (by omega)]
theorem perm_of[Inhabited α]{l:List α}{d:Array α}(h:Go.Sort.PermIn 0 l.toArray.size l.toArray d):d.size=l.length∧d.toList.Perm l:=by
 obtain⟨h1,-,h2⟩:=h;have h3:d.extract 0 l.toArray.size=d:=by rw[←h1];exact Array.extract_size
 rw[h3,Array.extract_size]at h2;exact⟨by simpa using h1,h2⟩
theorem sorted_of[Inhabited α]{lt:α→α→Bool}{n:Nat}{d:Array α}(hn:n=d.size)(h:Go.Sort.SortedIn lt 0 n d):d.toList.Pairwise fun x y=>lt y x=false:=by
 subst hn;rw[List.pairwise_iff_getElem];intro i j hi hj hij;have hi':i<d.size:=by simpa using hi
 have hj':j<d.size:=by simpa using hj
 have:=h i j (Nat.zero_le _) hij hj';rw[getElem!_pos d j hj',getElem!_pos d i hi']at this
 simpa using this
end
theorem swoL[Inhabited Zk]:Go.Sort.SWO (ltOf Yj) where
 irrefl:=ltL_irr
 trans:=ltL_tr
 ntrans x y z h1 h2:=by
  have e:∀p q:Zk,ltOf Yj p q=ltL p q:=fun _ _=>rfl;rw[e]at h1 h2 ⊢;rw[←Bool.not_eq_true,Ql]at h1 h2 ⊢;intro h
  rcases yJ y z with q|q|q
  ·exact h2 q
  ·subst q;exact h1 h
  exact h1 (Je h q)
theorem swoT[Inhabited Tal]:Go.Sort.SWO (ltOf Yr) where
 irrefl:=ltT_irr
 trans:=ltT_tr
 ntrans x y z h1 h2:=by
  have e:∀p q:Tal,ltOf Yr p q=ltT p q:=fun _ _=>rfl;rw[e]at h1 h2 ⊢;rw[←Bool.not_eq_true,Oy]at h1 h2 ⊢;unfold Jb at*;omega
theorem cmpLays_live[Inhabited Zk](blk off size:Nat)(w:World):CmpLays Tryz.prog 66 #[] Zv 5 Yj blk off size w:=
 fun _ _ _ _ x y=>(compareLives_gr x y _).mono (fun _ _ h=>⟨h.1,grow_of h.2⟩)
theorem cmpLays_tally[Inhabited Tal](blk off size:Nat)(w:World):CmpLays Tryz.prog 70 #[] Yb 3 Yr blk off size w:=
 fun _ _ _ _ x y=>(compareTallies_gr x y _).mono (fun _ _ h=>⟨h.1,grow_of h.2⟩)
theorem sort_live(v:Value)(l:List Zk)(w:World)(B:Nat)(h:w.ownsRow B 106 5 v l.length (cellsS Zv l))(hbig:l.length≤4000000000):
  Calls Tryz.prog 127 #[v,.func (Fn.func 66) #[] #[]] w fun e w'=>e=.returned (.tuple #[])∧∃m,(m.Perm l∧m.Pairwise fun x y=>ltL y x=false)∧w'.ownsRow B 106 5 v m.length (cellsS Zv m)∧Below B w w':=by
 rcases Qj h with⟨rfl,rfl⟩|⟨g,cap,rfl,hB,hh,hn,hm⟩
 ·have hcon:=AnyF.slices_SortFunc_none layL none 0 (.func (Fn.func 66) #[] #[]) w
  change Calls Tryz.prog 127 _ _ _ at hcon
  refine hcon.mono ?_;rintro e w' ⟨rfl,rfl⟩;exact⟨rfl,[],⟨List.Perm.refl _,List.Pairwise.nil⟩,h,Below.refl _ _⟩
 have eg:∀args w,(callFunc 66 args).run Tryz.prog w=.ok (.enter 66 args) w:=enters_of Tryz.func66 (by kernel_rfl) rfl;have hlt:=hh.lt;have:Inhabited Zk:=⟨⟨false,0,0,0,0⟩⟩;have hcon:=AnyQ.slices_SortFunc layL 5 Tryz.isAgg106 Tryz.sizeOf106 Zv (fun _=>rfl) Vo Yj swoL 66 #[] g 0 cap l.toArray w eg (cmpLays_live g 0 l.toArray.size w) (hh.holdsK Ze (show 0<5 by omega)) hlt (by simp;omega)
 change Calls Tryz.prog 127 _ _ _ at hcon
 have hsl:l.toArray.size=l.length:=by simp
 rw[hsl]at hcon;refine hcon.mono ?_;rintro e w' ⟨rfl,d',n,os,hp,hs,rfl⟩;obtain⟨p1,p2⟩:=perm_of (l:=l) (d:=d') (by rw[hsl];exact hp);obtain⟨s1,s2⟩:=hh.sorted Ze (show 0<5 by omega) hn p1 n os;refine⟨rfl,d'.toList,⟨p2,sorted_of p1.symm hs⟩,?_,s2.mono hB⟩;have hlen:d'.toList.length=l.length:=by simp[p1]
 have:=s1.own Ze hB (by rw[hlen];exact hn) hm;rw[hlen]at this ⊢;exact this
theorem sort_tally(v:Value)(l:List Tal)(w:World)(B:Nat)(h:w.ownsRow B 108 3 v l.length (cellsS Yb l))(hbig:l.length≤4000000000):
  Calls Tryz.prog 129 #[v,.func (Fn.func 70) #[] #[]] w fun e w'=>e=.returned (.tuple #[])∧∃m,(m.Perm l∧m.Pairwise fun x y=>ltT y x=false)∧w'.ownsRow B 108 3 v m.length (cellsS Yb m)∧Below B w w':=by
 rcases Qj h with⟨rfl,rfl⟩|⟨g,cap,rfl,hB,hh,hn,hm⟩
 ·have hcon:=AnyF.slices_SortFunc_none layT none 0 (.func (Fn.func 70) #[] #[]) w
  change Calls Tryz.prog 129 _ _ _ at hcon
  refine hcon.mono ?_;rintro e w' ⟨rfl,rfl⟩;exact⟨rfl,[],⟨List.Perm.refl _,List.Pairwise.nil⟩,h,Below.refl _ _⟩
 have eg:∀args w,(callFunc 70 args).run Tryz.prog w=.ok (.enter 70 args) w:=enters_of Tryz.func70 (by kernel_rfl) rfl;have hlt:=hh.lt;have:Inhabited Tal:=⟨⟨0,0,0⟩⟩;have hcon:=AnyQ.slices_SortFunc layT 3 Tryz.isAgg108 Tryz.sizeOf108 Yb (fun _=>rfl) Jc Yr swoT 70 #[] g 0 cap l.toArray w eg (cmpLays_tally g 0 l.toArray.size w) (hh.holdsK Zg (show 0<3 by omega)) hlt (by simp;omega)
 change Calls Tryz.prog 129 _ _ _ at hcon
 have hsl:l.toArray.size=l.length:=by simp
 rw[hsl]at hcon;refine hcon.mono ?_;rintro e w' ⟨rfl,d',n,os,hp,hs,rfl⟩;obtain⟨p1,p2⟩:=perm_of (l:=l) (d:=d') (by rw[hsl];exact hp);obtain⟨s1,s2⟩:=hh.sorted Zg (show 0<3 by omega) hn p1 n os;refine⟨rfl,d'.toList,⟨p2,sorted_of p1.symm hs⟩,?_,s2.mono hB⟩;have hlen:d'.toList.length=l.length:=by simp[p1]
 have:=s1.own Zg hB (by rw[hlen];exact hn) hm;rw[hlen]at this ⊢;exact this
end Go.Proofs.YtfhecilhcofboaaGreat
