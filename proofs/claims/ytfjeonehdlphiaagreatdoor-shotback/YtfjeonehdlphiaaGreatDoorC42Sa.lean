/- Sa: part 42 of what the proofs need. -/
import Derived.Test.YtfjeonehdlphiaaGreatDoorC40Sa
import Derived.Test.YtfjeonehdlphiaaGreatDoorC41Sa
set_option linter.unusedVariables false
namespace Go.Proofs.YtfjeonehdlphiaaGreatDoor
structure Win (top HA HB lo hi:Nat):Prop where
 low:top≤lo
 high:hi≤top+HA
 all:top+HA≤HB
 zero:lo=0→top=0
def shrL (lo r:Nat):Nat:=if lo=0 then 0 else lo+r
def shrH (HB hi r:Nat):Nat:=if hi=HB then HB else hi-r
theorem Win.shr {top HA HB lo hi:Nat} (h:Win top HA HB lo hi) (r:Nat):Win top HA HB (shrL lo r) (shrH HB hi r):=by
 obtain ⟨h1,h2,h3,h4⟩:=h
 refine ⟨?_,?_,h3,?_⟩
 ·unfold shrL;split<;>omega
 ·unfold shrH;split<;>omega
 ·unfold shrL;split<;>omega
def AgZ (W top lo hi:Nat) (za zb:List Int):Prop:=∀y x,lo≤y→y<hi→x<W→zAt za ((y-top)*W+x)=zAt zb (y*W+x)
def AgP (W top lo hi:Nat) (pa pb:List Px):Prop:=∀y x,lo≤y→y<hi→x<W→pxAt pa ((y-top)*W+x)=pxAt pb (y*W+x)
theorem jaJN {W y x:Nat} (hx:x<W):(y*W+x) % W=x:=by rw[Nat.add_comm,Nat.add_mul_mod_self_right,Nat.mod_eq_of_lt hx]
theorem qk46 {W y x:Nat} (hx:x<W):(y*W+x) / W=y:=by
 rw[Nat.add_comm,Nat.add_mul_div_right _ _ (by omega),Nat.div_eq_of_lt hx,Nat.zero_add]
theorem ix_lt {W H y x:Nat} (hy:y<H) (hx:x<W):y*W+x<H*W:=by
 have h:=Nat.mul_le_mul_right W (show y+1≤H from hy)
 rw[Nat.add_mul,Nat.one_mul] at h
 omega
theorem zJoE (f:Nat→Int) {n j:Nat} (h:j<n):zAt ((List.range n).map f) j=f j:=by
 unfold zAt
 rw[List.getD_eq_getElem?_getD,List.getElem?_map,List.getElem?_range h]
 rfl
theorem jITc (f:Nat→Px) {n j:Nat} (h:j<n):pxAt ((List.range n).map f) j=f j:=by
 unfold pxAt
 rw[List.getD_eq_getElem?_getD,List.getElem?_map,List.getElem?_range h]
 rfl
theorem zXw2 (f:Px→Px) {ps:List Px} {j:Nat} (h:j<ps.length):pxAt (ps.map f) j=f (pxAt ps j):=by
 unfold pxAt
 rw[List.getD_eq_getElem?_getD,List.getD_eq_getElem?_getD,List.getElem?_map,List.getElem?_eq_getElem h]
 rfl
theorem qGhb {N:Nat} {za zb:List Int} {W HA HB:Nat} {pa qa pb qb:Fin N→Int} {ca cb:Fin N→Bool}
  (h1:∀x,(hasB W HA (pa x) (qa x)=true∧ca x=true)↔(hasB W HB (pb x) (qb x)=true∧cb x=true))
  (h2:∀x,hasB W HB (pb x) (qb x)=true→cb x=true→zAt za ((qa x).toNat*W+(pa x).toNat)=zAt zb ((qb x).toNat*W+(pb x).toNat)) :
  meanV za W HA pa qa ca=meanV zb W HB pb qb cb:=by
 have hs:mStep za W HA pa qa ca=mStep zb W HB pb qb cb:=by
  funext s x
  unfold mStep
  by_cases hc:hasB W HB (pb x) (qb x)=true∧cb x=true
  ·rw[if_pos ((h1 x).2 hc),if_pos hc,h2 x hc.1 hc.2]
  ·rw[if_neg (fun h=>hc ((h1 x).1 h)),if_neg hc]
 unfold meanV mF
 rw[hs]
section
variable {W top HA HB lo hi:Nat}
theorem AgZ.map {za zb:List Int} {fa fb:Nat→Int} {lo' hi':Nat} (hw:Win top HA HB lo' hi') (ha:za.length=HA*W) (hb:zb.length=HB*W)
  (h:∀y x,lo'≤y→y<hi'→x<W→fa ((y-top)*W+x)=fb (y*W+x)):AgZ W top lo' hi' ((List.range za.length).map fa) ((List.range zb.length).map fb):=by
 intro y x h1 h2 hx
 have:=hw.low;have:=hw.high;have:=hw.all
 rw[zJoE _ (by rw[ha];exact ix_lt (by omega) hx),zJoE _ (by rw[hb];exact ix_lt (by omega) hx)]
 exact h y x h1 h2 hx
theorem AgP.map {na nb:Nat} {fa fb:Nat→Px} {lo' hi':Nat} (hw:Win top HA HB lo' hi') (ha:na=HA*W) (hb:nb=HB*W)
  (h:∀y x,lo'≤y→y<hi'→x<W→fa ((y-top)*W+x)=fb (y*W+x)):AgP W top lo' hi' ((List.range na).map fa) ((List.range nb).map fb):=by
 intro y x h1 h2 hx
 have:=hw.low;have:=hw.high;have:=hw.all
 rw[jITc _ (by rw[ha];exact ix_lt (by omega) hx),jITc _ (by rw[hb];exact ix_lt (by omega) hx)]
 exact h y x h1 h2 hx
theorem Xv7E {za zb:List Int} {ma mb:Nat→Int} {white:Int} (hw:Win top HA HB lo hi) (ha:za.length=HA*W) (hb:zb.length=HB*W) (hz:AgZ W top lo hi za zb)
  (hm:∀y x,top≤y→ma ((y-top) % 2*2+x % 2)=mb (y % 2*2+x % 2)):AgZ W top lo hi (levL W za ma white) (levL W zb mb white):=by
 refine AgZ.map hw ha hb fun y x h1 h2 hx=>?_
 have h3:=hz y x h1 h2 hx
 have h4:=hm y x (Nat.le_trans hw.low h1)
 simp only[zBza,Int.toNat_natCast,jaJN hx,qk46 hx,h3,h4]
theorem XloF {za zb:List Int} {pa pb:Int} {m:Nat→Int} (hw:Win top HA HB lo hi) (ha:za.length=HA*W) (hb:zb.length=HB*W) (hz:AgZ W top lo hi za zb)
  (hm:∀y x,top≤y→colV pa.toNat x (y-top)=colV pb.toNat x y):AgZ W top lo hi (gaiL W za pa m) (gaiL W zb pb m):=by
 refine AgZ.map hw ha hb fun y x h1 h2 hx=>?_
 have h3:=hz y x h1 h2 hx
 have h4:=hm y x (Nat.le_trans hw.low h1)
 simp only[gainV,Int.toNat_natCast,jaJN hx,qk46 hx,h3,h4]
theorem XP3e {y r:Nat} {d:Int} (hw:Win top HA HB lo hi) (h1:shrL lo r≤y) (h2:y<shrH HB hi r) (hd1:-(r:Int)≤d) (hd2:d≤r) :
  (0≤((y-top:Nat):Int)+d∧((y-top:Nat):Int)+d<HA↔0≤(y:Int)+d∧(y:Int)+d<HB)∧(0≤(y:Int)+d∧(y:Int)+d<HB→lo≤((y:Int)+d).toNat∧((y:Int)+d).toNat<hi∧(((y-top:Nat):Int)+d).toNat=((y:Int)+d).toNat-top):=by
 obtain ⟨h3,h4,h5,h6⟩:=hw
 have ht:top≤y:=by
  unfold shrL at h1
  split at h1<;>omega
 have hlo:lo=0∨lo+r≤y:=by
  unfold shrL at h1
  split at h1
  ·exact .inl ‹_›
  ·exact .inr h1
 have hhi:(hi=HB∧y<HB)∨y+r<hi:=by
  unfold shrH at h2
  split at h2
  ·exact .inl ⟨‹_›,h2⟩
  ·exact .inr (by omega)
 rcases hlo with hlo|hlo<;>rcases hhi with hhi|hhi
 ·have:=h6 hlo;omega
 ·have:=h6 hlo;omega
 ·omega
 ·omega
theorem zfUe {za zb:List Int} {la lb:List Pt} (hw:Win top HA HB lo hi) (ha:za.length=HA*W) (hb:zb.length=HB*W) (hz:AgZ W top lo hi za zb)
  (hm:∀(y:Nat) (x:Int),top≤y→y<top+HA→goodB la (x,((y-top:Nat):Int))=goodB lb (x,(y:Int))):AgZ W top (shrL lo 2) (shrH HB hi 2) (repL W HA za la) (repL W HB zb lb):=by
 refine AgZ.map (hw.shr 2) ha hb fun y x h1 h2 hx=>?_
 have hw2:=hw.shr 2
 have hty:top≤y:=Nat.le_trans hw2.low h1
 have hyt:y<top+HA:=Nat.lt_of_lt_of_le h2 hw2.high
 have h3:=hz y x (by unfold shrL at h1;split at h1<;>omega) (by have:=hw.high;have:=hw.all;unfold shrH at h2;split at h2<;>omega) hx
 have h4:=hm y x hty hyt
 simp only[repV,Int.toNat_natCast,jaJN hx,qk46 hx,h3,h4]
 refine congrArg (fun u=>if goodB lb ((x:Int),(y:Int))=true then zAt zb (y*W+x) else u) ?_
 have key:∀k:Fin 4,(0≤crY (y-top) k∧crY (y-top) k<HA↔0≤crY y k∧crY y k<HB)∧(0≤crY y k∧crY y k<HB→lo≤(crY y k).toNat∧(crY y k).toNat<hi∧(crY (y-top) k).toNat=(crY y k).toNat-top):=fun k =>
  XP3e (d:=crDy k.1) hw h1 h2 (by unfold crDy;(repeat' split)<;>omega) (by unfold crDy;(repeat' split)<;>omega)
 refine qGhb (fun k=>?_) (fun k hk hc=>?_)
 ·obtain ⟨k1,k2⟩:=key k
  have hh:hasB W HA (crX x k) (crY (y-top) k)=true↔hasB W HB (crX x k) (crY y k)=true:=by
   simp only[hasB,decide_eq_true_eq]
   constructor
   ·intro h;have:=k1.1 ⟨h.2.2.1,h.2.2.2⟩;exact ⟨h.1,h.2.1,this.1,this.2⟩
   ·intro h;have:=k1.2 ⟨h.2.2.1,h.2.2.2⟩;exact ⟨h.1,h.2.1,this.1,this.2⟩
  have hcc:hasB W HB (crX x k) (crY y k)=true→repC la x (y-top) k=repC lb x y k:=fun h=>by
   simp only[hasB,decide_eq_true_eq] at h
   have k3:=k2 ⟨h.2.2.1,h.2.2.2⟩
   have hA:=k1.2 ⟨h.2.2.1,h.2.2.2⟩
   have:=hm (crY y k).toNat (crX x k) (by have:=hw.low;omega) (by have:=hw.high;omega)
   rw[←k3.2.2,Int.toNat_of_nonneg hA.1,Int.toNat_of_nonneg h.2.2.1] at this
   exact this
  constructor
  ·intro h;have h1:=hh.1 h.1;exact ⟨h1,by rw[←hcc h1];exact h.2⟩
  ·intro h;exact ⟨hh.2 h.1,by rw[hcc h.1];exact h.2⟩
 ·simp only[hasB,decide_eq_true_eq] at hk
  have k3:=(key k).2 ⟨hk.2.2.1,hk.2.2.2⟩
  rw[k3.2.2]
  exact hz _ _ k3.1 k3.2.1 (by omega)
theorem j5JN {k:Nat} (h:k<8):nOf k / 3≤2:=by unfold nOf;split<;>omega
theorem qBfV {za zb:List Int} {pa pb:Int} (hw:Win top HA HB lo hi) (ha:za.length=HA*W) (hb:zb.length=HB*W) (hz:AgZ W top lo hi za zb)
  (hm:∀y x,top≤y→colV pa.toNat x (y-top)=colV pb.toNat x y):AgP W top (shrL lo 1) (shrH HB hi 1) (fillL W HA za pa) (fillL W HB zb pb):=by
 refine AgP.map (hw.shr 1) ha hb fun y x h1 h2 hx=>?_
 have hw2:=hw.shr 1
 have hty:top≤y:=Nat.le_trans hw2.low h1
 have h3:=hz y x (by unfold shrL at h1;split at h1<;>omega) (by have:=hw.high;have:=hw.all;unfold shrH at h2;split at h2<;>omega) hx
 have h4:=hm y x hty
 have key:∀k:Fin 8,(0≤parY (y-top) k∧parY (y-top) k<HA↔0≤parY y k∧parY y k<HB)∧(0≤parY y k∧parY y k<HB→lo≤(parY y k).toNat∧(parY y k).toNat<hi∧(parY (y-top) k).toNat=(parY y k).toNat-top):=fun k=>by
  have h:=XP3e (d:=-1+(nOf k.1 / 3:Nat)) hw h1 h2 (by omega) (by have:=j5JN k.2;omega)
  have e1:parY (y-top) k=((y-top:Nat):Int)+(-1+(nOf k.1 / 3:Nat)):=by unfold parY;omega
  have e2:parY y k=(y:Int)+(-1+(nOf k.1 / 3:Nat)):=by unfold parY;omega
  rw[e1,e2]
  exact h
 have part:∀c,partV za W HA pa.toNat x (y-top) c=partV zb W HB pb.toNat x y c:=fun c=>by
  unfold partV
  rw[h3,h4]
  refine congrArg (fun u=>if colV pb.toNat x y=c then zAt zb (y*W+x) else u) ?_
  refine qGhb (fun k=>?_) (fun k hk hc=>?_)
  ·obtain ⟨k1,k2⟩:=key k
   have hh:hasB W HA (parX x k) (parY (y-top) k)=true↔hasB W HB (parX x k) (parY y k)=true:=by
    simp only[hasB,decide_eq_true_eq]
    constructor
    ·intro h;have:=k1.1 ⟨h.2.2.1,h.2.2.2⟩;exact ⟨h.1,h.2.1,this.1,this.2⟩
    ·intro h;have:=k1.2 ⟨h.2.2.1,h.2.2.2⟩;exact ⟨h.1,h.2.1,this.1,this.2⟩
   have hcc:hasB W HB (parX x k) (parY y k)=true→parC pa.toNat x (y-top) c k=parC pb.toNat x y c k:=fun h=>by
    simp only[hasB,decide_eq_true_eq] at h
    have k3:=k2 ⟨h.2.2.1,h.2.2.2⟩
    have:=hm (parY y k).toNat (parX x k).toNat (by have:=hw.low;omega)
    unfold parC
    rw[k3.2.2,this]
   constructor
   ·intro h;have h1:=hh.1 h.1;exact ⟨h1,by rw[←hcc h1];exact h.2⟩
   ·intro h;exact ⟨hh.2 h.1,by rw[hcc h.1];exact h.2⟩
  ·simp only[hasB,decide_eq_true_eq] at hk
   have k3:=(key k).2 ⟨hk.2.2.1,hk.2.2.2⟩
   rw[k3.2.2]
   exact hz _ _ k3.1 k3.2.1 (by omega)
 simp only[fillP,Int.toNat_natCast,jaJN hx,qk46 hx,part]
theorem qaIG {pa pb:List Px} {f:Px→Px} (hw:Win top HA HB lo hi) (ha:pa.length=HA*W) (hb:pb.length=HB*W) (hz:AgP W top lo hi pa pb):AgP W top lo hi (pa.map f) (pb.map f):=by
 intro y x h1 h2 hx
 have:=hw.low;have:=hw.high;have:=hw.all
 rw[zXw2 _ (by rw[ha];exact ix_lt (by omega) hx),zXw2 _ (by rw[hb];exact ix_lt (by omega) hx),hz y x h1 h2 hx]
theorem z5s9 {W:Nat} {x:Int} (h:1≤W):(near W x).toNat<W:=by unfold near;(repeat' split)<;>omega
theorem qbos {pa pb:List Px} {amount:Int} (hw:Win top HA HB lo hi) (ha:pa.length=HA*W) (hb:pb.length=HB*W) (hz:AgP W top lo hi pa pb) :
  AgP W top (shrL lo 1) (shrH HB hi 1) (jz1R W HA pa amount) (jz1R W HB pb amount):=by
 refine AgP.map (hw.shr 1) ha hb fun y x h1 h2 hx=>?_
 have hw2:=hw.shr 1
 have hty:top≤y:=Nat.le_trans hw2.low h1
 have h3:=hz y x (by unfold shrL at h1;split at h1<;>omega) (by have:=hw.high;have:=hw.all;unfold shrH at h2;split at h2<;>omega) hx
 have key:∀k:Fin 8,pxAt pa (wIx W HA x (y-top) k.1)=pxAt pb (wIx W HB x y k.1):=fun k=>by
  unfold wIx
  have hk:=j5JN k.2
  generalize nOf k.1 / 3=q at hk
  have hx2:=z5s9 (x:=(x:Int)-1+(nOf k.1 % 3:Nat)) (show 1≤W by omega)
  generalize (near W ((x:Int)-1+(nOf k.1 % 3:Nat))).toNat=xx at hx2
  have hyB:∃yy:Nat,(near HB ((y:Int)-1+(q:Nat))).toNat=yy∧(near HA (((y-top:Nat):Int)-1+(q:Nat))).toNat=yy-top∧lo≤yy∧yy<hi:=by
   refine ⟨_,rfl,?_⟩
   obtain ⟨h5,h6,h7,h8⟩:=hw
   have hlo:(lo=0∧top=0)∨(lo+1≤y∧0<lo):=by
    unfold shrL at h1
    split at h1
    ·exact .inl ⟨‹_›,h8 ‹_›⟩
    ·exact .inr ⟨h1,by omega⟩
   have hhi:(hi=HB∧y<HB∧top+HA=HB)∨(y+1<hi∧hi<HB)∨(y+1<hi∧hi=HB):=by
    unfold shrH at h2
    split at h2
    ·exact .inl ⟨‹_›,h2,by omega⟩
    ·exact .inr (.inl ⟨by omega,by omega⟩)
   unfold near
   rcases hlo with hlo|hlo<;>rcases hhi with hhi|hhi|hhi<;>(repeat' split)<;>omega
  obtain ⟨yy,e1,e2,e3,e4⟩:=hyB
  rw[e1,e2]
  exact hz yy xx e3 e4 hx2
 have hF:wF pa W HA x (y-top) (List.finRange 8)=wF pb W HB x y (List.finRange 8):=by
  unfold wF
  rw[h3]
  refine congrArg (fun g=>(List.finRange 8).foldl g (addP (0,0,0) 4 (pxAt pb (y*W+x)))) ?_
  funext s k
  rw[key k]
 simp only[zesK,Int.toNat_natCast,jaJN hx,qk46 hx,hF,h3]
end
structure Seen (top HA:Nat) (na nb:Plan):Prop where
 black:∀y x,top≤y→na.black ((y-top) % 2*2+x % 2)=nb.black (y % 2*2+x % 2)
 phase:∀y x,top≤y→colV na.phase.toNat x (y-top)=colV nb.phase.toNat x y
 spots:∀(y:Nat) (x:Int),top≤y→y<top+HA→goodB na.spots (x,((y-top:Nat):Int))=goodB nb.spots (x,(y:Int))
 white:na.white=nb.white
 gains:na.gains=nb.gains
 matrix:na.matrix=nb.matrix
 curve:na.curve=nb.curve
 amount:na.amount=nb.amount
theorem zry9 (ls:List Pt) (top rows y:Nat) (x:Int) (h1:top≤y) (h2:y<top+rows):goodB (qj7y ls top rows) (x,((y-top:Nat):Int))=goodB ls (x,(y:Int)):=by
 have hiff:(x,((y-top:Nat):Int))∈qj7y ls top rows↔(x,(y:Int))∈ls:=by
  unfold qj7y
  rw[List.mem_map]
  constructor
  ·rintro ⟨s,hs,he⟩
   obtain ⟨hm,hr⟩:=List.mem_filter.1 hs
   obtain ⟨s1,s2⟩:=s
   simp only[Prod.mk.injEq,zLwc,decide_eq_true_eq] at he hr
   have e:s2=(y:Int):=by omega
   rw[←he.1,←e]
   exact hm
  ·intro h
   refine ⟨(x,(y:Int)),List.mem_filter.2 ⟨h,?_⟩,?_⟩
   ·simp only[zLwc,decide_eq_true_eq];omega
   ·simp only[Prod.mk.injEq,true_and];omega
 unfold goodB
 rw[decide_eq_decide,List.count_eq_zero,List.count_eq_zero,hiff]
theorem XQqq (p:Int) (hp:qdne p=true) (top x y:Nat) (h1:top≤y):colV (if top % 2=1 then zVsj p else p).toNat x (y-top)=colV p.toNat x y:=by
 have h2:0≤p∧p≤3:=by simpa [qdne] using hp
 have hB:colB (if top % 2=1 then zVsj p else p).toNat x (y-top)=colB p.toNat x y:=by
  unfold colB
  refine Prod.ext ?_ ?_<;>refine decide_eq_decide.2 ?_<;>unfold zVsj<;>split<;>(try split)<;>omega
 unfold colV
 rw[hB]
theorem XYnJ (n:Plan) (hp:qdne n.phase=true) (top HA:Nat):Seen top HA (XzXJ n top HA) n:=by
 refine ⟨fun y x h=>?_,fun y x h=>XQqq _ hp _ _ _ h,fun y x h1 h2=>zry9 _ _ _ _ _ h1 h2,rfl,rfl,rfl,rfl,rfl⟩
 show (if top % 2=1 then j9wH n.black else n.black) _=_
 split
 ·unfold j9wH
  exact congrArg n.black (by omega)
 ·exact congrArg n.black (by omega)
theorem X574 {na nb:Plan} {W top HA HB lo hi:Nat} {za zb:List Int} (hn:Seen top HA na nb) (hw:Win top HA HB lo hi) (ha:za.length=HA*W) (hb:zb.length=HB*W) (hz:AgZ W top lo hi za zb) :
  AgP W top (shrL lo 4) (shrH HB hi 4) (dev7 na W HA za) (dev7 nb W HB zb):=by
 have g1:AgZ W top lo hi (dev1 na W za) (dev1 nb W zb):=by
  unfold dev1;rw[hn.white];exact Xv7E hw ha hb hz hn.black
 have g2:AgZ W top (shrL lo 2) (shrH HB hi 2) (dev2 na W HA za) (dev2 nb W HB zb) :=
  zfUe hw (by rw[j8g5,ha]) (by rw[j8g5,hb]) g1 hn.spots
 have g3:AgZ W top (shrL lo 2) (shrH HB hi 2) (dev3 na W HA za) (dev3 nb W HB zb):=by
  unfold dev3;rw[hn.gains];exact XloF (hw.shr 2) (by rw[zAmR,ha]) (by rw[zAmR,hb]) g2 hn.phase
 have g4:=qBfV (hw.shr 2) (by rw[qvem,ha]) (by rw[qvem,hb]) g3 hn.phase
 have g5:AgP W top (shrL (shrL lo 2) 1) (shrH HB (shrH HB hi 2) 1) (dev5 na W HA za) (dev5 nb W HB zb):=by
  unfold dev5;rw[hn.matrix];exact qaIG ((hw.shr 2).shr 1) (by rw[jByB,ha]) (by rw[jByB,hb]) g4
 have g6:AgP W top (shrL (shrL lo 2) 1) (shrH HB (shrH HB hi 2) 1) (dev6 na W HA za) (dev6 nb W HB zb):=by
  unfold dev6;rw[hn.curve];exact qaIG ((hw.shr 2).shr 1) (by rw[XEJ7,ha]) (by rw[XEJ7,hb]) g5
 have g7:AgP W top (shrL (shrL (shrL lo 2) 1) 1) (shrH HB (shrH HB (shrH HB hi 2) 1) 1) (dev7 na W HA za) (dev7 nb W HB zb):=by
  unfold dev7;rw[hn.amount];exact qbos ((hw.shr 2).shr 1) (by rw[qyIC,ha]) (by rw[qyIC,hb]) g6
 intro y x h1 h2 hx
 refine g7 y x ?_ ?_ hx
 ·unfold shrL at h1 ⊢
  split at h1<;>(repeat' split)<;>omega
 ·unfold shrH at h2 ⊢
  split at h2<;>(repeat' split)<;>omega
theorem zwNz {W top fm m:Nat} {pa pb:List Px} (ht:top≤fm) (ha:(fm-top+m)*W≤pa.length) (hb:(fm+m)*W≤pb.length) (h:AgP W top fm (fm+m) pa pb):rowsL pa W (fm-top) m=rowsL pb W fm m:=by
 have l1:(rowsL pa W (fm-top) m).length=m*W:=by
  unfold rowsL;rw[List.length_take,List.length_drop];rw[Nat.add_mul] at ha;omega
 have l2:(rowsL pb W fm m).length=m*W:=by
  unfold rowsL;rw[List.length_take,List.length_drop];rw[Nat.add_mul] at hb;omega
 refine List.ext_getElem? fun j=>?_
 by_cases j1:j<m*W
 ·have hW:0<W:=by
   rcases Nat.eq_zero_or_pos W with h0|h0
   ·rw[h0] at j1;omega
   ·exact h0
  obtain ⟨q,r,hq,hr,hj⟩:∃q r,q<m∧r<W∧j=q*W+r :=
   ⟨j / W,j % W,Nat.div_lt_of_lt_mul (by rw[Nat.mul_comm];exact j1),Nat.mod_lt _ hW,by rw[Nat.mul_comm];exact (Nat.div_add_mod j W).symm⟩
  have h3:=h (fm+q) r (by omega) (by omega) hr
  have i1:(fm+q-top)*W+r=(fm-top)*W+j:=by
   rw[show fm+q-top=(fm-top)+q by omega,Nat.add_mul,Nat.add_assoc,←hj]
  have i2:(fm+q)*W+r=fm*W+j:=by rw[Nat.add_mul,Nat.add_assoc,←hj]
  rw[i1,i2] at h3
  rw[Nat.add_mul] at ha hb
  unfold pxAt at h3
  rw[List.getD_eq_getElem?_getD,List.getD_eq_getElem?_getD,List.getElem?_eq_getElem (by omega),List.getElem?_eq_getElem (by omega)] at h3
  simp only[Option.getD_some] at h3
  unfold rowsL
  rw[List.getElem?_take_of_lt j1,List.getElem?_take_of_lt j1,List.getElem?_drop,List.getElem?_drop,List.getElem?_eq_getElem (by omega),List.getElem?_eq_getElem (by omega),h3]
 ·rw[List.getElem?_eq_none (by rw[l1];omega),List.getElem?_eq_none (by rw[l2];omega)]
theorem qdr1 {n:Plan} {W top H HB fm tm:Nat} {za zb:List Int} (hp:qdne n.phase=true) (ha:za.length=H*W) (hb:zb.length=HB*W) (h1:top+H≤HB) (hft:fm<tm) (hto:tm≤HB) (hlo:top=0∨top+4≤fm) (hhi:top+H=HB∨tm+4≤top+H)
  (hz:AgZ W top top (top+H) za zb):rowsL (dev7 (XzXJ n top H) W H za) W (fm-top) (tm-fm)=rowsL (dev7 n W HB zb) W fm (tm-fm):=by
 have hw:Win top H HB top (top+H):=⟨Nat.le_refl _,Nat.le_refl _,h1,id⟩
 have g:=X574 (XYnJ n hp top H) hw ha hb hz
 refine zwNz (by omega) ?_ ?_ ?_
 ·rw[zrLo,ha];exact Nat.mul_le_mul_right _ (by omega)
 ·rw[zrLo,hb];exact Nat.mul_le_mul_right _ (by omega)
 ·intro y x y1 y2 hx
  refine g y x ?_ ?_ hx
  ·unfold shrL;split<;>omega
  ·unfold shrH;split<;>omega
theorem XPv5 (zs:List Int) (W top H HB:Nat) (hl:zs.length=HB*W) (h:top+H≤HB):AgZ W top top (top+H) (rowsL zs W top H) zs:=by
 intro y x h1 h2 hx
 have i1:=ix_lt (show y-top<H by omega) hx
 have i2:=ix_lt (show y<HB by omega) hx
 unfold zAt rowsL
 rw[List.getD_eq_getElem?_getD,List.getD_eq_getElem?_getD,List.getElem?_take_of_lt i1,List.getElem?_drop]
 have e:top*W+((y-top)*W+x)=y*W+x:=by
  rw[←Nat.add_assoc,←Nat.add_mul,show top+(y-top)=y by omega]
 rw[e]
theorem XFJK {α:Type} (L:List α) (W f t H:Nat) (h1:f≤t) (h2:t≤H):rowsL L W f (t-f)++rowsL L W t (H-t)=rowsL L W f (H-f):=by
 unfold rowsL
 have e1:t*W=f*W+(t-f)*W:=by rw[←Nat.add_mul,show f+(t-f)=t by omega]
 have e2:(H-f)*W=(t-f)*W+(H-t)*W:=by rw[←Nat.add_mul,show t-f+(H-t)=H-f by omega]
 rw[e1,e2,List.take_add,List.drop_drop]
theorem XSdW {α:Type} {L:List α} {W H:Nat} (h:L.length=H*W):rowsL L W 0 (H-0)=L:=by
 unfold rowsL
 rw[Nat.zero_mul,List.drop_zero,Nat.sub_zero,←h,List.take_length]
theorem qHXF {n:Plan} {W H:Nat} {zs:List Int} {rows f:Nat} (hE:fitsE n W H zs H=0) (hr:1≤rows) (hf:f<H) :
  jqst n W H zs rows f=rowsL (dev7 n W H zs) W f (qW9x H rows f-f):=by
 obtain ⟨h1,h2,h3⟩:=jsZS hE
 obtain ⟨hW,hH,hl,_⟩:=qwcI h2
 have hlz:zs.length=H*W:=by rw[Nat.mul_comm];exact_mod_cast hl
 have hgt:=qQb2 (H:=H) hr hf
 have hle:=jWB6 (rows:=rows) hf
 unfold jqst partL
 generalize qW9x H rows f=t at *
 have hA:needA f≤f:=by unfold needA;omega
 have hB1:t≤needB t H:=by unfold needB;omega
 have hB2:needB t H≤H:=by unfold needB;omega
 have hA2:needA f=0∨needA f+4≤f:=by unfold needA;omega
 have hB3:needB t H=H∨t+4≤needB t H:=by unfold needB;omega
 generalize needA f=A at *
 generalize needB t H=B at *
 have e1:((A:Int)).toNat=A:=Int.toNat_natCast A
 have e2:(((B-A:Nat):Int)).toNat=B-A:=Int.toNat_natCast _
 have e3:((W:Int)).toNat=W:=Int.toNat_natCast W
 have e4:((f:Int)-(A:Int)).toNat=f-A:=by omega
 have e5:((t:Int)-(f:Int)).toNat=t-f:=by omega
 rw[e1,e2,e3,e4,e5]
 refine qdr1 (qwVl h1).1 ?_ hlz (by omega) hgt hle hA2 (by omega) (XPv5 zs W A (B-A) H hlz (by omega))
 refine zdIr zs W _ _ ?_
 rw[hlz];exact Nat.mul_le_mul_right _ (by omega)
theorem zvWh {n:Plan} {W H:Nat} {zs:List Int} {rows:Nat} (hE:fitsE n W H zs H=0) (hr:1≤rows):∀fuel f,f≤H→H-f≤fuel→ji0X n W H zs rows fuel f=rowsL (dev7 n W H zs) W f (H-f):=by
 intro fuel
 induction fuel with
 | zero =>
  intro f h1 h2
  rw[show H-f=0 by omega]
  simp[ji0X,rowsL]
 | succ k ih =>
  intro f h1 h2
  rw[ji0X]
  by_cases hf:f<H
  ·have hgt:=qQb2 (H:=H) hr hf
   have hle:=jWB6 (rows:=rows) hf
   rw[if_pos hf,qHXF hE hr hf,ih _ hle (by omega),XFJK _ _ _ _ _ (by omega) hle]
  ·rw[if_neg hf,show H-f=0 by omega]
   simp[rowsL]
theorem zVy2 {n:Plan} {W H:Int} {zs:List Int} {rows:Int} (hE:fitsE n W H zs H=0) (hr:1≤rows):X1qP n W H zs rows=dev7 n W H zs:=by
 obtain ⟨h1,h2,h3⟩:=jsZS hE
 obtain ⟨hW,hH,hl,_⟩:=qwcI h2
 obtain ⟨WN,rfl⟩:=Int.eq_ofNat_of_zero_le (show 0≤W by omega)
 obtain ⟨HN,rfl⟩:=Int.eq_ofNat_of_zero_le (show 0≤H by omega)
 have hlz:zs.length=HN*WN:=by rw[Nat.mul_comm];exact_mod_cast hl
 unfold X1qP
 rw[Int.toNat_natCast,Int.toNat_natCast,zvWh hE (by omega) HN 0 (Nat.zero_le _) (by omega)]
 exact XSdW (by rw[zrLo,hlz])
end Go.Proofs.YtfjeonehdlphiaaGreatDoor
