/- Sw: part 2 of what the proofs need. -/
import Derived.Test.YtfjeonehdlphiaaGreatDoorC1Sw
set_option linter.unusedVariables false
namespace Go.Proofs.YtfjeonehdlphiaaGreatDoor
abbrev Pt:=Int×Int
def ptAt (ls:List Pt) (i:Nat):Pt:=ls.getD i (0,0)
theorem jU85 (ls:List Pt) (i:Nat) (h:i<ls.length):ls[i]=ptAt ls i:=by simp[ptAt,List.getD_eq_getElem?_getD,List.getElem?_eq_getElem h]
def ptY (ls:List Pt) (i:Nat):Bool:=decide (0≤(ptAt ls i).2∧(ptAt ls i).2≤65535)
def Xqx5 (ls:List Pt) (i:Nat):Bool:=decide (0<i→(ptAt ls (i-1)).1<(ptAt ls i).1∧(ptAt ls (i-1)).2≤(ptAt ls i).2)
def ptsOk (ls:List Pt) (k:Nat):Bool:=(List.range k).all fun i=>ptY ls i && Xqx5 ls i
def jMWf (ls:List Pt):Bool:=decide (2≤(ls.length:Int)∧(ls.length:Int)≤16) && decide ((ptAt ls 0).1=0) && decide ((ptAt ls (ls.length-1)).1=65535)
def zamz (ls:List Pt):Bool:=jMWf ls && ptsOk ls ls.length
theorem qYjQ (ls:List Pt) (k:Nat):ptsOk ls (k+1)=(ptsOk ls k && (ptY ls k && Xqx5 ls k)):=by simp[ptsOk,List.range_succ]
theorem qhxg (ls:List Pt) (k n:Nat) (h:k<n) (hf:(ptY ls k && Xqx5 ls k)=false):ptsOk ls n=false:=by
 rw[Bool.eq_false_iff];intro he
 have:=List.all_eq_true.1 he k (List.mem_range.2 h)
 rw[hf] at this;cases this
theorem qzFt {ls:List Pt} {n:Nat} (h:ptsOk ls n=true) (k:Nat) (hk:k<n):(0≤(ptAt ls k).2∧(ptAt ls k).2≤65535)∧(0<k→(ptAt ls (k-1)).1<(ptAt ls k).1∧(ptAt ls (k-1)).2≤(ptAt ls k).2):=by
 have:=List.all_eq_true.1 h k (List.mem_range.2 hk)
 rw[Bool.and_eq_true] at this
 exact ⟨of_decide_eq_true this.1,of_decide_eq_true this.2⟩
structure jhAl (ls:List Pt):Prop where
 two:2≤ls.length
 most:ls.length≤16
 first:(ptAt ls 0).1=0
 last:(ptAt ls (ls.length-1)).1=65535
 y:∀k,k<ls.length→0≤(ptAt ls k).2∧(ptAt ls k).2≤65535
 step:∀k,k+1<ls.length→(ptAt ls k).1<(ptAt ls (k+1)).1∧(ptAt ls k).2≤(ptAt ls (k+1)).2
theorem zqz3 {ls:List Pt} (h:zamz ls=true):jhAl ls:=by
 rw[zamz,jMWf,Bool.and_eq_true,Bool.and_eq_true,Bool.and_eq_true] at h
 obtain ⟨⟨⟨h1,h2⟩,h3⟩,h4⟩:=h
 have h1:=of_decide_eq_true h1
 exact ⟨by omega,by omega,of_decide_eq_true h2,of_decide_eq_true h3,fun k hk=>(qzFt h4 k hk).1,fun k hk=>(qzFt h4 (k+1) hk).2 (by omega)⟩
theorem jhAl.lt {ls:List Pt} (h:jhAl ls) (i d:Nat) (hj:i+d+1<ls.length):(ptAt ls i).1<(ptAt ls (i+d+1)).1∧(ptAt ls i).2≤(ptAt ls (i+d+1)).2:=by
 induction d with
 | zero=>exact h.step i hj
 | succ d ih =>
  have h1:=ih (by omega)
  have h2:=h.step (i+d+1) (by omega)
  rw[show i+(d+1)+1=i+d+1+1 by omega]
  omega
theorem jhAl.x {ls:List Pt} (h:jhAl ls) (k:Nat) (hk:k<ls.length):0≤(ptAt ls k).1∧(ptAt ls k).1≤65535:=by
 have h1:=h.first
 have h2:=h.last
 have h3:=h.two
 constructor
 ·rcases Nat.eq_zero_or_pos k with rfl|hp
  ·omega
  ·have:=(h.lt 0 (k-1) (by omega)).1
   rw[show 0+(k-1)+1=k by omega] at this
   omega
 ·rcases Nat.eq_or_lt_of_le (show k≤ls.length-1 by omega) with e|hlt
  ·rw[e];omega
  ·have:=(h.lt k (ls.length-1-k-1) (by omega)).1
   rw[show k+(ls.length-1-k-1)+1=ls.length-1 by omega] at this
   omega
def Xp0K (ls:List Pt) (i:Nat) (x:Int):Int:=(ptAt ls (i-1)).2+((ptAt ls i).2-(ptAt ls (i-1)).2)*(x-(ptAt ls (i-1)).1) / ((ptAt ls i).1-(ptAt ls (i-1)).1)
def isAt (ls:List Pt) (x:Int) (i:Nat):Prop:=i<ls.length∧x≤(ptAt ls i).1∧∀j,j<i→(ptAt ls j).1<x
def XwYM (ls:List Pt) (x:Int):Nat:=ls.findIdx fun p=>decide (x≤p.1)
def qy0p (ls:List Pt) (x:Int):Int:=if (ptAt ls (XwYM ls x)).1=x then (ptAt ls (XwYM ls x)).2 else Xp0K ls (XwYM ls x) x
theorem XJjO {ls:List Pt} {x:Int} {i:Nat} (h:isAt ls x i):XwYM ls x=i:=by
 rw[XwYM,List.findIdx_eq h.1]
 refine ⟨by rw[jU85 ls i h.1];simpa using h.2.1,fun j hj=>?_⟩
 have:=h.2.2 j hj
 rw[jU85 ls j (by have:=h.1;omega)]
 simp;omega
theorem jMoW {ls:List Pt} {x:Int} {i:Nat} (h:isAt ls x i):qy0p ls x=if (ptAt ls i).1=x then (ptAt ls i).2 else Xp0K ls i x:=by
 rw[qy0p,XJjO h]
theorem jwsP {ls:List Pt} (h:jhAl ls) (i:Nat) (hi:i+1<ls.length) (x:Int) (h1:(ptAt ls i).1≤x) (h2:x≤(ptAt ls (i+1)).1) :
  0≤((ptAt ls (i+1)).2-(ptAt ls i).2)*(x-(ptAt ls i).1)∧((ptAt ls (i+1)).2-(ptAt ls i).2)*(x-(ptAt ls i).1)≤4294836225∧(ptAt ls i).2≤Xp0K ls (i+1) x∧Xp0K ls (i+1) x≤(ptAt ls (i+1)).2:=by
 have hs:=h.step i hi
 have y1:=h.y i (by omega)
 have y2:=h.y (i+1) hi
 have x1:=h.x i (by omega)
 have x2:=h.x (i+1) hi
 have a:0≤(ptAt ls (i+1)).2-(ptAt ls i).2:=by omega
 have b:0≤x-(ptAt ls i).1:=by omega
 have hnn:=Int.mul_nonneg a b
 have hle:=Int.mul_le_mul (show (ptAt ls (i+1)).2-(ptAt ls i).2≤65535 by omega) (show x-(ptAt ls i).1≤65535 by omega) b (by omega)
 have hd:0<(ptAt ls (i+1)).1-(ptAt ls i).1:=by omega
 have hq0:=Int.ediv_nonneg hnn (Int.le_of_lt hd)
 have hle2:=Int.mul_le_mul_of_nonneg_left (show x-(ptAt ls i).1≤(ptAt ls (i+1)).1-(ptAt ls i).1 by omega) a
 have hq1:=Int.ediv_le_of_le_mul hd hle2
 refine ⟨hnn,by omega,?_,?_⟩
 ·rw[Xp0K,Nat.add_sub_cancel];omega
 ·rw[Xp0K,Nat.add_sub_cancel];omega
theorem qgIX {ls:List Pt} (h:jhAl ls) {x:Int} {i:Nat} (hi:isAt ls x i) (h0:0≤x):0≤qy0p ls x∧qy0p ls x≤65535:=by
 rw[jMoW hi]
 split
 ·exact h.y i hi.1
 ·rename_i hne
  have hf:=h.first
  obtain ⟨k,rfl⟩:∃k,i=k+1:=by
   cases i with
   | zero=>exact absurd (by have:=hi.2.1;omega) hne
   | succ k=>exact ⟨k,rfl⟩
  have hb:=jwsP h k hi.1 x (Int.le_of_lt (hi.2.2 k (by omega))) hi.2.1
  have y1:=h.y k (by have:=hi.1;omega)
  have y2:=h.y (k+1) hi.1
  omega
theorem jIzf {ls:List Pt} (h:jhAl ls) {x:Int} (hx:x≤65535):∃i,isAt ls x i:=by
 have key:∀k,k≤ls.length→(∃i,isAt ls x i)∨∀j,j<k→(ptAt ls j).1<x:=by
  intro k
  induction k with
  | zero=>intro _;exact .inr fun j hj=>by omega
  | succ k ih =>
   intro hk
   rcases ih (by omega) with h1|h1
   ·exact .inl h1
   ·by_cases hc:(ptAt ls k).1<x
    ·refine .inr fun j hj=>?_
     rcases Nat.eq_or_lt_of_le (show j≤k by omega) with e|hlt
     ·rw[e];exact hc
     ·exact h1 j hlt
    ·exact .inl ⟨k,by omega,by omega,h1⟩
 rcases key ls.length (Nat.le_refl _) with h1|h1
 ·exact h1
 ·have:=h1 (ls.length-1) (by have:=h.two;omega)
  have:=h.last
  omega
theorem jhAl.le {ls:List Pt} (h:jhAl ls) (i j:Nat) (hij:i≤j) (hj:j<ls.length):(ptAt ls i).2≤(ptAt ls j).2:=by
 rcases Nat.eq_or_lt_of_le hij with e|hlt
 ·rw[e];exact Int.le_refl _
 ·have:=(h.lt i (j-i-1) (by omega)).2
  rw[show i+(j-i-1)+1=j by omega] at this
  exact this
end Go.Proofs.YtfjeonehdlphiaaGreatDoor
namespace Go.Proofs.YtfjeonehdlphiaaGreatDoor
open Go.RowKit
def MarkB (w:World) (base:Nat) (e:TypeId) (v:Value) (l:List UInt8):Prop :=
 ∃g cap cur fz,v=.slice (some ⟨g,0,none⟩) l.length cap∧base≤g∧w.heap[g]?=some (.cells cur e fz)∧(fz.2=0∨cap≤fz.1)∧l.length≤cap∧cap≤maxLen∧cur.size=cap∧cur.toList.take l.length=byt l
theorem MarkB.block {w w':World} {base:Nat} {e:TypeId} {v:Value} {l:List UInt8} (h:MarkB w base e v l) (hk:∀k,k<w.heap.size→w'.heap[k]?=w.heap[k]?):MarkB w' base e v l:=by
 obtain ⟨g,cap,cur,fz,h1,h2,h3,h4⟩:=h
 exact ⟨g,cap,cur,fz,h1,h2,(hk g (Array.getElem?_eq_some_iff.1 h3).1).trans h3,h4⟩
theorem MarkB.form {w:World} {base:Nat} {e:TypeId} {v:Value} {l:List UInt8} (h:MarkB w base e v l):∃g cap,v=.slice (some ⟨g,0,none⟩) l.length cap∧base≤g:=by
 obtain ⟨g,cap,cur,fz,h1,h2,_⟩:=h
 exact ⟨g,cap,h1,h2⟩
theorem MarkB.cells {w:World} {base:Nat} {e:TypeId} {g n cap:Nat} {l:List UInt8} (h:MarkB w base e (.slice (some ⟨g,0,none⟩) n cap) l):n=l.length∧∀j u,(byt l)[j]?=some u→w.cell? ⟨g,j,none⟩=some u:=by
 obtain ⟨g',cap',cur,fz,h1,_,h3,_,_,_,_,h8⟩:=h
 cases h1
 refine ⟨rfl,fun j u hu=>?_⟩
 rw[←h8,List.getElem?_take] at hu
 split at hu
 ·simpa [World.cell?,h3] using hu
 ·cases hu
theorem qF6P (w:World) (base:Nat) (e:TypeId) (l:List UInt8) (hb:base≤w.heap.size) (hl:l.length≤maxLen) :
  MarkB (w.drew.alloc (.cells (bytesRow (str l) (grownCap w (str l).size 0 e)) e ((bytesRow (str l) (grownCap w (str l).size 0 e)).size,(bytesRow (str l) (grownCap w (str l).size 0 e)).size+1))) base e (.slice (some ⟨w.heap.size,0,none⟩) (str l).size (grownCap w (str l).size 0 e)) l:=by
 have hs:=qzX5 l
 have hge:=grownCap_ge w (str l).size 0 e
 have hz:(bytesRow (str l) (grownCap w (str l).size 0 e)).size=grownCap w (str l).size 0 e:=by
  simp only[bytesRow,Array.size_append,Array.size_map,Array.size_replicate]
  have:(str l).data.size=(str l).size:=rfl
  omega
 refine ⟨w.heap.size,grownCap w (str l).size 0 e,_,_,by rw[hs],hb,heap_alloc_new w.drew _,.inr ?_,by rw[←hs];exact hge,grownCap_le_maxLen _ _ _ _ (by rw[hs];exact hl),hz,?_⟩
 ·rw[hz];exact Nat.le_refl _
 ·simp only[bytesRow,Array.toList_append,Array.toList_map]
  rw[List.take_left' (by simp[str])]
  simp[byt,str]
theorem zJxs (w:World) (o:Obj):Below w.heap.size w (w.drew.alloc o):=(Below.refl _ _).drew.alloc (Nat.le_refl _) o
section
variable {P:Program}
theorem qgdD (w:World) (base:Nat) (t ty e:TypeId) (i:TypeInfo) (ht:P.underlying t=some (.slice e)) (hi:P.info? e=some i) (hz:i.zero=some (.int .u8 0)) (hsize:i.size=1) (hby:i.bytes=1)
  (v:Value) (l:List UInt8) (hown:MarkB w base e v l) (b o:Nat) (c:Nat) (x:UInt8) (hx:w.cell? ⟨b,o,none⟩=some (.int .u8 x.toNat)) (hlen:l.length+1≤140737488355328) (hbase:base≤w.heap.size) :
  ∃v' w',(Builtin.append_ #[t,t] ty #[v,.slice (some ⟨b,o,none⟩) 1 c]).run P w=.ok v' w'∧MarkB w' base e v' (l++[x])∧w.grownBy w' v.ownBlock:=by
 have hcs:=hown
 obtain ⟨g,cap,cur,fz,rfl,hbg,hg,hfz,hnc,hcm,hcur,htake⟩:=hown
 have hnews:∀j u,[Value.int .u8 x.toNat][j]?=some u→w.cell? ((⟨b,o,none⟩:Addr).add j)=some u:=by
  intro j u hu
  obtain ⟨rfl,rfl⟩:=X4yv hu
  have ha0:(⟨b,o,none⟩:Addr).add 0=⟨b,o,none⟩:=by unfold Addr.add;split<;>simp_all
  rw[ha0];exact hx
 have hll:(l++[x]).length=l.length+1:=by simp
 by_cases hroom:l.length+1≤cap
 ·have hf:=run_firstCells_some (P:=P) w 1 1 ⟨b,o,none⟩ 1 c [.int .u8 x.toNat] rfl hnews
  have hin:l.length<cur.size:=by omega
  have hcell:w.cell? ⟨g,l.length,none⟩=some cur[l.length]:=by simp[World.cell?,hg,hin]
  have hfro:w.frozen? ⟨g,l.length,none⟩=false:=by
   obtain ⟨lo,hi'⟩:=fz
   simp only[World.frozen?,hg,Bool.and_eq_false_iff,decide_eq_false_iff_not]
   simp only at hfz
   omega
  have hst:(storeCells ⟨g,l.length,none⟩ [.int .u8 x.toNat] 0).run P w=.ok () (w.setRow g (cur.setIfInBounds l.length (.int .u8 x.toNat))):=by
   have hadd:(⟨g,l.length,none⟩:Addr).add 0=⟨g,l.length,none⟩:=by unfold Addr.add;split<;>simp_all
   simp only[storeCells,Sem.run_bind,hadd]
   rw[run_store P w _ _ _ rfl,hcell]
   simp[hfro,setCell_eq_setRow w g l.length cur e fz _ hg]
  refine ⟨.slice (some ⟨g,0,none⟩) (l.length+1) cap,w.setRow g (cur.setIfInBounds l.length (.int .u8 x.toNat)),?_,⟨g,cap,_,fz,by rw[hll],hbg,setRow_heap w g cur _ e _ hg,hfz,by omega,hcm,by simpa using hcur,?_⟩,⟨rfl,rfl,rfl,by simp,fun k _ hk=>setRow_other w g k _ (fun e=>hk (by simp[Value.ownBlock,e]))⟩⟩
  ·simp[Builtin.append_,run_underlying ht,sizeOf,typeInfo,hi,hsize,Builtin.lenOf,hroom,hf,Addr.add_lit,hst]
  ·rw[hll,zP44,←htake,Array.toList_setIfInBounds]
   rw[List.take_succ_eq_append_getElem (by simpa using hin)]
   simp[byt,List.take_set_of_le]
 ·have holds:∀j u,(byt l)[j]?=some u→w.cell? ((⟨g,0,none⟩:Addr).add j)=some u:=by
   intro j u hu
   have hadd:(⟨g,0,none⟩:Addr).add j=⟨g,j,none⟩:=by unfold Addr.add;split<;>simp_all
   rw[hadd]
   exact (MarkB.cells hcs).2 j u hu
  have hr:=run_append_grow (P:=P) w t ty e i (.int .u8 0) ht hi hz ⟨g,0,none⟩ l.length cap (byt l) (by simp[byt,hsize]) holds ⟨b,o,none⟩ 1 c [.int .u8 x.toNat] (by simp[hsize]) hnews (by omega) (by omega) (growslice_fits (by omega) (by rw[hby];omega))
  have hge:=grownCap_ge w (l.length+1) cap e
  have hcm2:grownCap w (l.length+1) cap e≤maxLen:=grownCap_le_maxLen w (l.length+1) cap e (by unfold maxLen;omega)
  refine ⟨_,_,hr,⟨w.heap.size,_,_,(0,0),by rw[hll],hbase,heap_alloc_new w.drew _,.inl rfl,by rw[hll];exact hge,hcm2,?_,?_⟩,⟨rfl,rfl,rfl,by simp,fun k hk _=>heap_alloc_old w.drew _ hk⟩⟩
  ·simp only[Array.size_append,List.size_toArray,size_zeroCells,byt,List.length_map,List.length_cons,List.length_nil]
   have:(Value.int .u8 0).cells.size=1:=rfl
   rw[this]
   omega
  ·simp only[Array.toList_append]
   rw[List.take_left' (by simp[byt])]
   simp[byt]
theorem q9aO {ops:Array Oper} {rest:List Oper} {o:Oper} {a:Act} {Q:Exit→Act→World→Prop} (w:World) (hgd:o.guard=none) (s y:Operand) (t:TypeId)
  (ho:o.op=.call { callee:=.builtin .append,args:=#[s,y],argTypes:=#[t,t] })
  (base:Nat) (e:TypeId) (i:TypeInfo) (ht:P.underlying t=some (.slice e)) (hi:P.info? e=some i) (hz:i.zero=some (.int .u8 0)) (hsize:i.size=1) (hby:i.bytes=1)
  (v:Value) (l:List UInt8) (hs:a.eval s=v) (hown:MarkB w base e v l) (b q:Nat) (c:Nat) (x:UInt8) (hy:a.eval y=.slice (some ⟨b,q,none⟩) 1 c) (hx:w.cell? ⟨b,q,none⟩=some (.int .u8 x.toNat)) (hlen:l.length+1≤140737488355328) (hbase:base≤w.heap.size)
  (h:∀v' w',MarkB w' base e v' (l++[x])→w.grownBy w' v.ownBlock→wpList P ops Q rest (a.put o.dst v') w'):wpList P ops Q (o::rest) a w:=by
 refine wpList_plain hgd fun K hK=>?_
 obtain ⟨v',w',hr,h2,h3⟩:=qgdD (P:=P) w base t o.type e i ht hi hz hsize hby v l hown b q c x hx hlen hbase
 unfold Oper.wp execOp
 simp only[ho,resolve,invoke,builtin,Sem.run_bind,Sem.run_pure,Result.andThen_ok,List.map_toArray,List.map_cons,List.map_nil,hs,hy,hr]
 exact hK _ _ (h v' w' h2 h3)
theorem Xbmi {w:World} {base:Nat} {src e dst:TypeId} {v:Value} {l:List UInt8} (hs:P.underlying src=some (.slice e)) (he:P.underlying e=some (.int .u8)) (hd:P.underlying dst=some .string) (h:MarkB w base e v l) :
  (convert src dst v).run P w=.ok (.string (str l)) w:=by
 obtain ⟨g,cap,rfl,hg⟩:=h.form
 have hc:=(MarkB.cells h).2
 rw[run_convert_bytes_arg (P:=P) w src e hs he g 0 l.length cap (l.map fun x=>(x.toNat:Int)) (by simp) (fun j hj=>?_) dst hd]
 ·congr 2
  simp only[strOfNums,str,List.map_map]
  congr 2
  exact (List.map_congr_left (fun c _=>by simp)).trans (List.map_id l)
 ·have hj':j<l.length:=by simpa using hj
  rw[Nat.zero_add]
  refine (hc j (.int .u8 (l[j].toNat)) ?_).trans ?_
  ·simp[byt,hj']
  ·simp[hj']
end
end Go.Proofs.YtfjeonehdlphiaaGreatDoor
