/- slices.IndexFunc and slices.DeleteFunc over lives, with a predicate that may make memory. -/
import Derived.Test.YtfhecilhcofboaaGreatStE
import Derived.Test.YtfhecilhcofboaaGreatSlV
import Derived.Shelf.Abstract
namespace Go.Proofs.YtfhecilhcofboaaGreat
open Go.RowKit

theorem run_clear_many{P:Program}(w:World)(t ty elem:TypeId)(i0:TypeInfo)(z:Value)(sz g o m c:Nat)(hu:P.underlying t=some (.slice elem))(hi:P.info? elem=some i0)(hz:i0.zero=some z)(hzs:z.cells.size=sz)(h1:∀v ∈ z.cells,v.oneCell'=true)
  (hc:∀j,j<m*sz→(w.cell? ⟨g,o+j,none⟩).isSome=true) (hf:∀j,j<m*sz→w.frozen? ⟨g,o+j,none⟩=false):
  ∃Z:List Value,Z.length=m*sz∧(Builtin.clear_ #[t] ty #[.slice (some ⟨g,o,none⟩) m c]).run P w=.ok (.tuple #[]) (w.setCells g o Z):=by
 cases m with
 |zero=>exact⟨[],by simp,by simp[Builtin.clear_,run_underlying hu,World.setCells]⟩
 |succ m=>
  have hl:(Builtin.zeroCells z.cells (m+1)).toList.length=(m+1)*sz:=by rw[Array.length_toList,size_zeroCells,hzs]
  refine⟨(Builtin.zeroCells z.cells (m+1)).toList,hl,?_⟩
  have hst:=run_storeCells_cells (P:=P) g o (Builtin.zeroCells z.cells (m+1)).toList 0 w (by rw[hl];simpa using hc) (by rw[hl];simpa using hf) (by
   intro v hv;simp only[Builtin.zeroCells,Array.toList_map,List.mem_map]at hv;obtain⟨k,hk,rfl⟩:=hv;have hk2:k<(m+1)*z.cells.size:=by simpa using hk
   have hpos:0<z.cells.size:=by
    rcases Nat.eq_zero_or_pos z.cells.size with h0|h0
    ·rw[h0]at hk2;omega
    exact h0
   have hlt:=Nat.mod_lt k hpos;rw[getElem!_pos z.cells (k % z.cells.size) hlt]
   exact h1 _ (Array.getElem_mem hlt))
  simp only[Nat.add_zero]at hst
  simp[Builtin.clear_,run_underlying hu,zeroValue,typeInfo,hi,hz,hst]
section
variable {α:Type}{sz:Nat}{enc:α→List Value}{e:TypeId}
theorem Zu.cut{w:World}{g cap i:Nat}{l:List α}(he:∀x,(enc x).length=sz)(h:Zu e sz enc w g cap l)(Z:List Value)(hfit:i*sz+Z.length≤cap*sz)(hi:i≤l.length):Zu e sz enc (w.setCells g (i*sz) Z) g cap (l.take i):=by
 obtain⟨cur,h1,h2,h3⟩:=h;obtain⟨⟨cur',k1,k2,k3⟩,-⟩:=Ug g e Z (i*sz) w cur h1 (by rw[h2];exact hfit);refine⟨cur',k1,by rw[k2,h2],?_⟩;have hl:(l.take i).length=i:=by rw[List.length_take,Nat.min_eq_left hi]
 have hil:i*sz≤l.length*sz:=Nat.mul_le_mul_right _ hi;have:=congrArg (List.take (i*sz)) k3;rw[List.take_take,Nat.min_eq_left (by omega),List.take_left' (by rw[List.length_take,Array.length_toList,h2];omega)]at this;rw[hl,this,←Ue he,←h3,List.take_take,Nat.min_eq_left hil]
end
theorem Tryz.infoLive:(Tryz.prog.info? 106).map (fun i=>(i.zero,i.size,i.bytes))=some (some (.agg #[.bool false,.int .i64 0,.int .i64 0,.int .i64 0,.int .i64 0]),5,40):=by kernel_rfl
theorem Tryz.sizeLive:(Tryz.prog.info? 106).map (·.size)=some 5:=by kernel_rfl

set_option maxRecDepth 100000 in
set_option maxHeartbeats 1000000 in
theorem indexFunc_fn(fn:Nat)(caps:Array Value)(p:Zk→Bool)(eg:∀args w,(callFunc fn args).run Tryz.prog w=.ok (.enter fn args) w)(v:Value)(l:List Zk)(w:World)(hl:Yf 5 Zv w v l)
  (hp:∀w',Zh w w'→∀x:Zk,Calls Tryz.prog fn (#[.agg #[.bool x.set,.int .i64 x.key,.int .i64 x.item,.int .i64 x.author,.int .i64 x.seq]]++caps) w' fun e w''=>e=.returned (.bool (p x))∧Below w'.heap.size w' w''):
  Calls Tryz.prog 140 #[v,.func (.func fn) #[] caps] w fun e w'=>((∃(k:Nat) (x:Zk),l[k]? =some x∧p x=true∧(∀y ∈ l.take k,p y=false)∧e=.returned (.int .i64 k))∨((∀y ∈ l,p y=false)∧e=.returned (.int .i64 (-1))))∧Below w.heap.size w w':=by
 have hlen:=hl.len_le;obtain⟨a,cap,rfl,-,-,-⟩:=id hl;have HL:=Za hl;have HP:=Za hp;clear hl hp
 go_enter Tryz.func140,Tryz.ntmps140
 go_wp2_with fail
 go_loopw [8] (fun i wr=>∃k:Nat,k≤l.length∧i=.int .i64 k∧Hid (∀y ∈ l.take k,p y=false)∧Hid (Below w.heap.size w wr)) (fun i _=>l.length - (intOf i).toNat)
 case atStart=>exact⟨0,Nat.zero_le _,rfl,Za (by simp),Za (Below.refl _ _)⟩
 obtain⟨k,hk,rfl,HA,HB⟩:=hrel;obtain⟨w0,rfl⟩:∃w0,w0=wr:=⟨wr,rfl⟩
 by_cases hlt:k<l.length
 ·obtain⟨x,hu⟩:∃x,l[k]? =some x:=⟨_,List.getElem?_eq_getElem hlt⟩;obtain⟨b,off,rfl,d0,d1,d2,d3,d4⟩:=Va (HL.below HB.out (nlr _)) hu;have hlt':(k:Int)<(l.length:Int):=by omega
  obtain⟨q,HQ⟩:∃q,Hid (p x=q):=⟨_,rfl⟩;have hc:=HP.out w0 HB.out x;rw[HQ.out]at hc
  cases q
  ·go_wp2_with (go_at_fn fn;refine hc.mono ?_;rintro e w1 ⟨rfl,hb⟩)
   go_roundw
   case rel=>
    refine⟨k+1,by omega,by go_num,Za (fun y hy=>?_),Za (Zb HB.out hb)⟩;obtain⟨hk2,rfl⟩:=List.getElem?_eq_some_iff.1 hu;rw[List.take_succ_eq_append_getElem hlt]at hy
    rcases List.mem_append.1 hy with hy|hy
    ·exact HA.out y hy
    simp at hy;subst hy;exact HQ.out
   case measure=>simp[intOf];omega
  go_wp2_with (go_at_fn fn;refine hc.mono ?_;rintro e w1 ⟨rfl,hb⟩)
  go_ret
  exact⟨.inl ⟨k,x,hu,HQ.out,HA.out,rfl⟩,Zb HB.out hb⟩
 have hkl:l.take k=l:=List.take_of_length_le (by omega);rw[hkl]at HA;have hlt':¬(k:Int)<(l.length:Int):=by omega
 go_wp2_with fail
 go_ret
 exact⟨.inr ⟨HA.out,rfl⟩,HB.out⟩
theorem Yg{w w':World}{row:Option Nat}(h:Below w.heap.size w w'):w.grownBy w' row:=⟨h.os,h.tape,h.output,h.size,fun k hk _=>h.block k hk⟩
theorem xX{w w':World}{row:Option Nat}(h:w.grownBy w' row)(o:Obj):w.grownBy (w'.alloc o) row:=Zy h (Yg (bpl _ o))
theorem holdsL5{w:World}{g cap:Nat}{l:List Zk}(h:Zu 106 5 Zv w g cap l){i:Nat}{x:Zk}(hx:l[i]? =some x):
  w.cell? ⟨g,i*5,none⟩=some (.bool x.set)∧w.cell? ⟨g,i*5+1,none⟩=some (.int .i64 x.key)∧w.cell? ⟨g,i*5+2,none⟩=some (.int .i64 x.item)∧w.cell? ⟨g,i*5+3,none⟩=some (.int .i64 x.author)∧w.cell? ⟨g,i*5+4,none⟩=some (.int .i64 x.seq):=
 ⟨h.at Ze hx (j:=0) rfl,h.at Ze hx (j:=1) rfl,h.at Ze hx (j:=2) rfl,h.at Ze hx (j:=3) rfl,h.at Ze hx (j:=4) rfl⟩
theorem Zu.slice{α:Type}{sz:Nat}{enc:α→List Value}{e:TypeId}(he:∀x,(enc x).length=sz){w:World}{g cap:Nat}{l:List α}(h:Zu e sz enc w g cap l)(hn:l.length≤cap)(hm:cap≤maxLen):Yf sz enc w (.slice (some ⟨g,0,none⟩) l.length cap) l:=Zl he (h.own he (Nat.zero_le g) hn hm)
theorem filter_step{p:Zk→Bool}{l:List Zk}{k:Nat}{x:Zk}(h:l[k]? =some x):(l.take (k+1)).filter (fun y=> !p y)=if p x then(l.take k).filter (fun y=> !p y)else(l.take k).filter (fun y=> !p y)++[x]:=by
 obtain⟨hk,rfl⟩:=List.getElem?_eq_some_iff.1 h;rw[List.take_succ_eq_append_getElem hk,List.filter_append]
 cases hs:p l[k] <;> simp[hs]
theorem filter_none{p:Zk→Bool}{l:List Zk}(h:∀y ∈ l,p y=false):l.filter (fun y=> !p y)=l:=List.filter_eq_self.2 (fun y hy=>by rw[h y hy];rfl)

set_option maxRecDepth 100000 in
set_option maxHeartbeats 2000000 in
theorem deleteFunc_fn(fn:Nat)(caps:Array Value)(p:Zk→Bool)(eg:∀args w,(callFunc fn args).run Tryz.prog w=.ok (.enter fn args) w)(g cap:Nat)(l:List Zk)(w:World)(h:Zu 106 5 Zv w g cap l)(hn:l.length≤cap)(hm:cap≤maxLen)
  (hp:∀w',w.grownBy w' (some g)→∀x:Zk,Calls Tryz.prog fn (#[.agg #[.bool x.set,.int .i64 x.key,.int .i64 x.item,.int .i64 x.author,.int .i64 x.seq]]++caps) w' fun e w''=>e=.returned (.bool (p x))∧Below w'.heap.size w' w''):
  Calls Tryz.prog 130 #[.slice (some ⟨g,0,none⟩) l.length cap,.func (.func fn) #[] caps] w fun e w'=>e=.returned (.slice (some ⟨g,0,none⟩) (l.filter fun y=> !p y).length cap)∧Zu 106 5 Zv w' g cap (l.filter fun y=> !p y)∧w.grownBy w' (some g):=by
 obtain⟨i0,hi0,hz0,hz1,hz2⟩:=info_parts Tryz.infoLive;have hlen:=(h.slice Ze hn hm).len_le;have hcm:cap≤9223372036854775807:=by unfold maxLen at hm;omega
 have HIF:=Za (indexFunc_fn fn caps p eg _ l w (h.slice Ze hn hm) (fun w' hg x=>hp w' (Yg hg) x));have HH:=Za h;have HP:=Za hp;clear h hp hm
 go_enter Tryz.func130,Tryz.ntmps130
 go_wp2_with fail
 refine HIF.mono ?_;rintro e w1 ⟨⟨k0,x0,hx0,hp0,hk0,rfl⟩|⟨hall,rfl⟩,hb⟩
 ·have HH1:=Za (HH.below hb (nlr _));have HG1:Hid (w.grownBy w1 (some g)):=Yg hb;clear hb HH HIF;have hk1:k0<l.length:=(List.getElem?_eq_some_iff.1 hx0).1;have hne:((k0:Int)==-1)=false:=beq_eq_false_iff_ne.2 (by omega)
  have HF0:Hid (l.take k0=(l.take (k0+1)).filter (fun y=> !p y)):=by
   unfold Hid;rw[filter_step hx0,if_pos hp0,filter_none hk0]
  obtain⟨n,HN⟩:∃n,Hid (l.length=n):=⟨_,rfl⟩;rw[HN.out]at hn hlen hk1 ⊢;clear hk0 hp0
  go_wp2_with fail
  go_loopw [5,6] (fun i j wr=>∃(ii jj:Nat) (L:List Zk),i=.int .i64 ii∧j=.int .i64 jj∧jj≤n∧ii<jj∧Hid (L.length=n)∧Hid (L.take ii=(l.take jj).filter (fun y=> !p y))∧Hid (∀m,jj≤m→L[m]? =l[m]?)∧Hid (Zu 106 5 Zv wr g cap L)∧Hid (w.grownBy wr (some g))) (fun _ j _=>n - (intOf j).toNat)
  case atStart=>exact⟨k0,k0+1,l,rfl,by go_num,by omega,by omega,HN,HF0,Za (fun m _=>rfl),HH1,HG1⟩
  clear HH1 HG1 HF0 hx0;obtain⟨ii,jj,L,rfl,rfl,hj,hij,HLN,HF,HT,HH,HG⟩:=hrel;obtain⟨w0,rfl⟩:∃w0,w0=wr:=⟨wr,rfl⟩
  by_cases hlt:jj<n
  ·obtain⟨x,hu⟩:∃x,l[jj]? =some x:=⟨_,List.getElem?_eq_getElem (by rw[HN.out];exact hlt)⟩;obtain⟨y,hy⟩:∃y,L[ii]? =some y:=⟨_,List.getElem?_eq_getElem (by rw[HLN.out];omega)⟩;have HLx:Hid (L[jj]? =some x):=by unfold Hid;rw[HT.out jj (nlr _)];exact hu
   obtain⟨d0,d1,d2,d3,d4⟩:=holdsL5 HH.out HLx.out;have hlt':(jj:Int)<(n:Int):=by omega
   have hlt2:(ii:Int)<(n:Int):=by omega
   obtain⟨q,HQ⟩:∃q,Hid (p x=q):=⟨_,rfl⟩;have HFS:=Za (filter_step (p:=p) hu);have V1:=Za (Box.new w0 [.bool x.set,.int .i64 x.key,.int .i64 x.item,.int .i64 x.author,.int .i64 x.seq] 106);have HH1:=Za (HH.below (bpl w0 (.cells #[.bool x.set,.int .i64 x.key,.int .i64 x.item,.int .i64 x.author,.int .i64 x.seq] 106)) (nlr _));have HG1:=Za (xX HG.out (.cells #[.bool x.set,.int .i64 x.key,.int .i64 x.item,.int .i64 x.author,.int .i64 x.seq] 106));have hc:=HP.out _ HG1.out x;have hgw:Hid (g≠w0.heap.size):=by have:=HH.lt;unfold Hid;omega
   rw[HQ.out]at hc;rw[HQ.out]at HFS;have HC:=Za hc;clear hc hu
   cases q
   ·go_wp2_with fail
    refine HC.mono ?_;rintro e w2 ⟨rfl,hb⟩;have V2:=Za (V1.below hb (nlr _));have HH2:=Za (HH1.below hb (nlr _));have HG2:Hid (w.grownBy w2 (some g)):=Zy HG1.out (Yg hb);clear hb V1 HH1 HG1 HC d0 d1 d2 d3 d4;obtain⟨c0,c1,c2,c3,c4⟩:=V2.c5;obtain⟨e0,e1,e2,e3,e4⟩:=holdsL5 HH2.out hy;have f0:=HH2.free (ii*5);have f1:=HH2.free (ii*5+1);have f2:=HH2.free (ii*5+2);have f3:=HH2.free (ii*5+3);have f4:=HH2.free (ii*5+4)
    go_wp2_with fail
    go_roundw
    case rel=>
     refine⟨ii+1,jj+1,L.set ii x,by go_num,by go_num,by omega,by omega,Za (by rw[List.length_set];exact HLN.out),Za ?_,Za (fun m hm=>?_),Za (HH2.set Ze x (by rw[HLN.out];omega) (by rw[HLN.out];exact hn)),Za (Zy HG2.out (Yh g (Zv x) (ii*5) w2))⟩
     ·rw[HFS.out,if_neg (by simp),←HF.out,List.take_succ_eq_append_getElem (by rw[List.length_set,HLN.out];omega),List.take_set_of_le (nlr _)]
      simp
     rw[List.getElem?_set_ne (by omega)];exact HT.out m (by omega)
    case measure=>simp[intOf];omega
   go_wp2_with fail
   refine HC.mono ?_;rintro e w2 ⟨rfl,hb⟩;have HH2:=Za (HH1.below hb (nlr _));have HG2:Hid (w.grownBy w2 (some g)):=Zy HG1.out (Yg hb);clear hb V1 HH1 HG1 HC d0 d1 d2 d3 d4
   go_wp2_with fail
   go_roundw
   case rel=>exact⟨ii,jj+1,L,rfl,by go_num,by omega,by omega,HLN,Za (by rw[HFS.out,if_pos (by simp)];exact HF.out),Za (fun m hm=>HT.out m (by omega)),HH2,HG2⟩
   case measure=>simp[intOf];omega
  have hjn:jj=n:=by omega
  have hln:l.take n=l:=List.take_of_length_le (by rw[HN.out];exact nlr _);rw[hjn,hln]at HF;have hlt':¬(jj:Int)<(n:Int):=by omega
  have e1:¬cap=ii:=by omega
  have e2:(ii:Int)≤(n:Int):=by omega
  have e3:(ii:Int)≤(cap:Int):=by omega
  have e4:(n:Int)≤(cap:Int):=by omega
  obtain⟨Z,hZ,hcl⟩:=run_clear_many (P:=Tryz.prog) w0 24 0 106 i0 _ 5 g (ii*5) (n - ii) (cap - ii) Tryz.underlying24 hi0 hz0 rfl (by intro v hv;simp[Value.cells]at hv;rcases hv with rfl|rfl <;> rfl) (fun j hj=>(HH.room (by omega)).1) (fun j hj=>(HH.room (by omega)).2)
  have HCL:=Za hcl;have HCUT:=Za (HH.cut Ze (i:=ii) Z (by rw[hZ];omega) (by rw[HLN.out];omega));have hfl:Hid (((l.filter fun y=> !p y).length)=ii):=by unfold Hid;rw[←HF.out,List.length_take,HLN.out];omega
  clear hcl hZ
  go_wp2_with fail
  rw[HCL.out]
  go_wp2_with fail
  go_ret
  exact⟨by rw[hfl.out];rfl,by rw[←HF.out];exact HCUT.out,Zy HG.out (Yh g Z (ii*5) w0)⟩
 have HH1:=Za (HH.below hb (nlr _));have HG1:Hid (w.grownBy w1 (some g)):=Yg hb;clear hb HH HIF
 go_wp2_with fail
 go_ret
 rw[filter_none hall];exact⟨rfl,HH1.out,HG1.out⟩
set_option maxRecDepth 100000 in
set_option maxHeartbeats 1000000 in
theorem deleteFunc_nil(fn:Nat)(caps:Array Value)(p:Zk→Bool)(eg:∀args w,(callFunc fn args).run Tryz.prog w=.ok (.enter fn args) w)(w:World)
  (hp:∀w',Zh w w'→∀x:Zk,Calls Tryz.prog fn (#[.agg #[.bool x.set,.int .i64 x.key,.int .i64 x.item,.int .i64 x.author,.int .i64 x.seq]]++caps) w' fun e w''=>e=.returned (.bool (p x))∧Below w'.heap.size w' w''):
  Calls Tryz.prog 130 #[.slice none 0 0,.func (.func fn) #[] caps] w fun e w'=>e=.returned (.slice none 0 0)∧Below w.heap.size w w':=by
 have HIF:=Za (indexFunc_fn fn caps p eg _ [] w (Yf.nil w) hp);clear hp
 go_enter Tryz.func130,Tryz.ntmps130
 go_wp2_with fail
 refine HIF.mono ?_;rintro e w1 ⟨⟨k0,x0,hx0,hp0,hk0,rfl⟩|⟨hall,rfl⟩,hb⟩
 ·simp at hx0
 have HB:=Za hb;clear hb
 go_wp2_with fail
 go_ret
 exact⟨rfl,HB.out⟩
end Go.Proofs.YtfhecilhcofboaaGreat
