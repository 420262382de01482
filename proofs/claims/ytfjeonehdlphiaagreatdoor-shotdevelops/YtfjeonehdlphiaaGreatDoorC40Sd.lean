/- Part 40. -/
import Derived.Test.YtfjeonehdlphiaaGreatDoorC37Sd
import Derived.Deep.CutRange
open Go.Obj renaming cells → ka
open List renaming setIfInBounds_toArray → kb, set_cons_zero → kc, set_cons_succ → kd, length_append → kw, append_assoc → kG
open Go.Act renaming put → kf
open Nat renaming le_refl → kh, lt_of_lt_of_le → km, le_trans → ko, zero_le → kv, mul_le_mul → xa
open Go.Value renaming int → Z, slice → J
open Go.IntKind renaming i64 → G
set_option linter.unusedVariables false
set_option maxHeartbeats 3200000
set_option maxRecDepth 100000
namespace Go.Proofs.YtfjeonehdlphiaaGreatDoor
open Go.RowKit
open _root_.Go.Proofs.Tryz
theorem Dv {w:World} {base:Nat} {e:TypeId} {b:Nat} {v:Value} {n:Nat} {xs:List Value} {k:Nat} (h:w.ownsRow base e b v n xs) (i:v.ownBlock≠some k) (x y z:Value):(((w.setCell ⟨k,0,none⟩ x).setCell ⟨k,1,none⟩ y).setCell ⟨k,2,none⟩ z).ownsRow base e b v n xs:=by
 refine ⟨h.1,?_⟩;rcases h.2 with h|⟨g,cap,c,a,d,f,r⟩
 ·exact .inl h
 ·refine .inr ⟨g,cap,c,a,d,?_,r⟩;rw[eL _ _ _ _ _ g (fun e=>i (by rw[a,e];rfl))];exact f
theorem ED {s:List UInt8} {W H kind:Int} {xs:List Int} (h:bp s W H kind xs=0):(cD s W H kind xs).length=W.toNat*H.toNat/\1<=W/\1<=H:=by
 rw[cD,if_pos h];unfold bp at h;split at h
 ·rename_i h0;split at h
  ·split at h
   ·split at h
    ·rename_i h3;obtain ⟨zs,a⟩:=Option.isSome_iff_exists.1 h3;rw[a];have b:=h0.1;have c:=h0.2;simp only[aM,decide_eq_true_eq] at b c;refine ⟨?_,b.1,c.1⟩;rw[dY] at a;split at a
     ·split at a
      ·rename_i hq;split at a
       ·cases a
        exact (nk hq).1
       ·cases a
      ·cases a
     ·cases a
    ·cases h
   ·rename_i hc;exact absurd h hc
  ·cases h
 ·cases h
theorem pt {r:av} (h:bJ r) {i:Nat} (d:i<aV r) {s:List UInt8} (a:stE r s (aE r i)=0):((ey r s (aE r i)).length:Int)=aE r i*r.w:=by
 obtain ⟨k,l⟩:=h.size d;obtain ⟨m,n⟩:=h.row d;have o:=h.w;by_cases c:r.kind=0
 ·obtain ⟨b,e⟩:=oy c s (aE r i);rw[b] at a;rw[e,en,if_pos (tf a),jg];omega
 ·have j:bp s r.w (aE r i) r.kind r.lens=0:=by
   rw[stE,if_neg c] at a;split at a
   ·assumption
   ·exact a
  obtain ⟨b,_,_⟩:=ED j;rw[ey,if_pos a,if_neg c,b];obtain ⟨A,f⟩:=Int.eq_ofNat_of_zero_le (show 0<=r.w from oM);obtain ⟨B,g⟩:=Int.eq_ofNat_of_zero_le (show 0<=aE r i from oM);rw[f,g,Int.toNat_natCast,Int.toNat_natCast,Int.natCast_mul,Int.mul_comm]
theorem qj {r:av} (h:bJ r) (k:Nat) (e:k<=aV r) (a:fE r k=true):(cz r k).length<=k*4096:=by
 induction k with
 | zero=>simp[cz]
 | succ k ih =>
  rw[ox,Bool.and_eq_true] at a;have b:=ih oM a.1;have c:=pt h (show k<aV r from oM) (of_decide_eq_true a.2);have d:=h.size (show k<aV r from oM);rw[oe,kw];omega
def kt (w:World) (r:av) (c:Array Value) (b k:Nat) (wr:World):Prop :=
 ∃(a:Option Addr) (cap:Nat),fE r k=true/\wr.heap[b]?=some (.cells #[Z G r.w,Z G r.h,J a (cz r k).length cap] 54 (0,0))/\wr.ownsRow w.heap.size 3 1 (J a (cz r k).length cap) (cz r k).length ((cz r k).map (Z .i64)) /\
  wr.heap[w.heap.size]?=some (.cells c 57 (0,0))/\wr.heap[w.heap.size+1]?=some (.cells #[Z G 0,Z G 0,J none 0 0] 54 (0,0))/\Below w.heap.size w wr
theorem kt.below {w:World} {r:av} {c:Array Value} {b k:Nat} {wr V:World} (h:kt w r c b k wr) (a:Below wr.heap.size wr V):kt w r c b k V:=by
 obtain ⟨l,cap,i,d,j,e,f,g⟩:=h;exact ⟨l,cap,i,(a.block _ (lS d)).trans d,cT j a,(a.block _ (lS e)).trans e,(a.block _ (lS f)).trans f,g.trans (a.mono g.size)⟩
theorem xj (r:av) (D tv F y:Value) (w:World) (hr:cR w r D tv F y) :
  Calls prog 48 #[.agg (aC r D tv F y)] w fun e w'=>∃v,e=.returned (.tuple #[.agg #[Z G (dk r),Z G (db r),v],Z G (bU r)])/\ap w' v (ed r)/\Below w.heap.size w w'/\ar w.heap.size v:=by
 have HR:=qH hr;have HCH:=qH (fun (u:World) (hu:Below w.heap.size w u)=>ue r D tv F y u (HR.1.lens.below hu (kh _)));have HCP:=qH (fun (u:World) (hu:Below w.heap.size w u)=>xi r D tv F y u (HR.1.plan.below hu (kh _)));have HST:=qH hr.strips;obtain ⟨tp,tc,rfl,htl,_⟩:=hr.strips;have o:=qH (show bU r=if da r=0 then (if r.strips.length=aV r then (if cU r=0 then (if fE r r.strips.length=true then 0 else 1) else cU r) else 2) else da r from rfl);have HZ:=qH (show ed r=if bU r=0 then cz r r.strips.length else [] from rfl);have HW:=qH (show dk r=if bU r=0 then r.w else 0 from rfl);have HH:=qH (show db r=if bU r=0 then r.h else 0 from rfl);generalize bU r=E at *;generalize ed r=a at *;generalize dk r=PW at *;generalize db r=PH at *;clear hr;obtain ⟨L,a2,n⟩:=gr w (ka (aC r D (J tp r.strips.length tc) F y) 57) (ka #[Z G 0,Z G 0,J none 0 0] 54);have O:=lS L;have hl2:=lS a2;go_enter func48,ntmps48;go_wp2_with (refine wpList_load_row rfl 57 _ rfl _ rfl _ _ _ _ L underlying57 rfl kR ?_)
 generalize (w.alloc _).alloc _=U at *;have HSR0:=qH (fun (k:Nat) (u:World) (h:bJ r) (hk:k<aV r)=>xQ r D (J tp r.strips.length tc) F y k u h hk);have HRS0:=qH (fun (k:Nat) (u:World) (h:bJ r) (hk:k<aV r) (hu:Below w.heap.size w u)=>EL r D (J tp r.strips.length tc) F y (cK r k) (aE r k) u h (h.row hk) (HR.1.lens.below hu (kh _)));have HSC0:=qH (fun (u:World) (h:bJ r)=>xP r D (J tp r.strips.length tc) F y u h);have HRC:=qH (fun (v:World) (h:v.heap[w.heap.size]?=some (.cells (aC r D (J tp r.strips.length tc) F y) 57 (0,0)))=>eJ h);have hi28:(prog.info? 57).map (·.size)=some ((aC r D (J tp r.strips.length tc) F y):Array Value).size:=kR;generalize (aC r D (J tp r.strips.length tc) F y)=RQ at *;have HZZ:=qH (fun (V:World) (hb:Below U.heap.size U V)=>al ((hb.block _ hl2).trans a2));have H:=qH (fun (V:World) (hb:Below U.heap.size U V) (j:Nat)=>Lib.frozen_of_heap ((hb.block _ hl2).trans a2) j);have HBZ:=qH (fun (V:World) (hb:Below U.heap.size U V)=>bf (aG n.1 hb) (show w.heap.size<=w.heap.size+1 from oM) (Z G 0) (Z G 0) (J none 0 0));refine (HCH.1 _ n.1).mono ?_;rintro e V1 ⟨rfl,hb1⟩;by_cases hF:da r=0
 ·rw[if_pos hF] at o;rw[hF];have hH:=nU hF;have I:=qH hH;have HSC:=qH (fun (u:World)=>HSC0.1 u hH);have K:=qH (show ∀v,Below U.heap.size U v->v.heap[w.heap.size]?=some (.cells RQ 57 (0,0))/\v.cell? ⟨w.heap.size,6,none⟩=some (J tp r.strips.length tc) from fun v h=>⟨(h.block _ O).trans L,(HRC.1 v ((h.block _ O).trans L)).2.2.2.2.2.2.1⟩);clear hF HCH hH;go_upto_region 4 with fail
  have A:Below U.heap.size U V1.drew:=hb1.drew;have hSd:=K.1 _ A;refine cE 5 K.1 ?_;refine ak 0 ?_ (p:=[2,1]);refine dS (i:=3) (oi:=_) (v:=.agg RQ) (some 20) [4] rfl rfl kR kR kR kR kR (fun _ _ _ h=>h) (Or.inl ⟨rR,?yy2⟩) hSd ?rr2
  case yy2=>(intro wq hSq;obtain ⟨hq1,hq2⟩:=hSq;exact nP 57 _ rfl _ rfl _ _ _ _ hq1 underlying57 rfl hi28)
  simp only[kf,kb,kd,kc];refine ak 1 ?_ (p:=[2]);refine ak 2 ?_;refine aw 4 fun x c=>?_;go_simp;refine (HSC.1 _).mono ?_;rintro e V2 ⟨rfl,hb2⟩;have m:Below U.heap.size U V2:=A.trans (hb2.mono A.size);have hSd:=K.1 _ m;refine c.out _ _ hSd ?_;clear c;try simp only[kf]
  refine aS fun x c=>?_;go_simp;refine c.out _ _ ?_;clear c;try simp only[kf]
  clear hSd A hb2;by_cases W:r.strips.length=aV r
  ·rw[if_pos W] at o;have hn:((r.strips.length:Int) != (aV r:Int))=false:=(by simp[W]);have g1:=(m.block _ O).trans L;have hcl:=I.1.cnt_le;have hsl:r.strips.length<=64:=oM;have HNC:=qH W;clear hcl W;(go_wp2_with (refine wpList_load_row rfl 57 _ rfl _ rfl _ _ _ _ g1 underlying57 rfl hi28 ?_));clear hn g1;refine (HCP.1 _ (aG n.1 m)).mono ?_;rintro e d ⟨rfl,f⟩;replace f:=aG m f;by_cases hP:cU r=0
   ·rw[if_pos hP] at o;rw[hP];clear HCP HSC m hP;have hW:=I.1.w;have hHh:=I.1.h;obtain ⟨i0,hi,hz0,hz1,hz2⟩:=info_parts Tryz.infoInt;obtain ⟨M,hM⟩:∃M:Nat,r.w*r.h=M:=⟨(r.w*r.h).toNat,by have:=pN ⟨show 0<=r.w from oM,hW.2⟩ ⟨show 0<=r.h from oM,hHh.2⟩;omega⟩;have hM4:M<=4096:=(by have:=pN ⟨show 0<=r.w from oM,hW.2⟩ ⟨show 0<=r.h from oM,hHh.2⟩;omega);have hmk:∀V:World,(Instr.makeSlice 52 (Z G 0) (Z G M)).run prog V=.ok (J (some ⟨V.heap.size,0,none⟩) 0 M) (V.alloc (.cells (madeCells #[Z G 0] M) 3)):=fun V=>by
     have h:=run_make (P:=prog) V 52 3 i0 (Z G 0) underlying52 hi hz0 .i64 .i64 0 M (Int.le_refl _) oM (by rw[hz2];omega) oM;rw[hz1] at h;simpa [Value.cells] using h
    have hwm:IntKind.i64.wrap (M:Int)=M:=IntWalk.i64_in _ oM;have HS9:=qH (show ∀v,Below U.heap.size U v->v.cell? ⟨w.heap.size,0,none⟩=some (Z G r.w)/\v.cell? ⟨w.heap.size,1,none⟩=some (Z G r.h) from fun v h=>⟨(HRC.1 v ((h.block _ O).trans L)).1,(HRC.1 v ((h.block _ O).trans L)).2.1⟩);clear hW hHh;(go_upto_region 9 with fail);have hs1:=f.size;go_cut [6] from 11 (fun q v=>∃l so cap,q=.pointer (some ⟨l,0,none⟩)/\v.heap[l]?=some (.cells #[Z G r.w,Z G r.h,J so 0 cap] 54 (0,0))/\v.ownsRow w.heap.size 3 1 (J so 0 cap) 0 []/\U.heap.size<=l/\Below U.heap.size U v)
    case first =>
     have A:Below U.heap.size U d.drew:=f.drew;have hSd:=HS9.1 _ A;refine cE 12 HS9.1 ?_;refine ak 0 ?_;refine ak 2 ?_;refine ak 4 ?_;refine ak 6 ?_;refine ak 1 ?_;refine ak 3 ?_;refine ak 5 ?_;refine ak 7 ?_;refine dS (i:=8) (oi:=_) (v:=Z G M) (some 38) [] rfl rfl kR kR kR kR kR (fun _ _ _ h=>h) (Or.inl ⟨rR,?yy13⟩) hSd ?rr13
     case yy13=>(intro wq hSq;obtain ⟨_,_⟩:=hSq;first|(go_simp;done)|(go_simp;rw[hM];try (go_simp<;>with_reducible rfl)))
     simp only[kf,kb,kd,kc];refine jJ (i:=9) (j:=11) (oi:=_) (oj:=_) kR rfl rfl (fun x c=>?brA) (fun x c=>?brB)
     case brA =>
      rw[if_pos rR];go_simp;have hB1:Below U.heap.size U (d.alloc (ka (madeCells #[Z G 0] M) 3)).drew:=(f.alloc f.size _).drew;have hSd:=HS9.1 _ hB1;refine c.out _ _ hSd ?_;clear c;(try simp only[kf]);refine ak 10 ?_;refine aw 11 fun x c=>?_;go_simp;have m:Below U.heap.size U ((d.alloc (ka (madeCells #[Z G 0] M) 3)).alloc (ka #[Z G 0,Z G 0,J none 0 0] 54)).drew:=((f.alloc f.size _).alloc sO _).drew;have hSd:=HS9.1 _ m;refine c.out _ _ hSd ?_;clear c;(try simp only[kf]);refine aS fun x c=>?_;go_simp;refine c.out _ _ ?_;clear c;(try simp only[kf]);clear hSd;go_wp2;go_meet
      case rel=>exact ⟨d.heap.size+1,some ⟨d.heap.size,0,none⟩,M,rfl,(df d (ka (madeCells #[Z G 0] M) 3) (ka #[Z G r.w,Z G r.h,J (some ⟨d.heap.size,0,none⟩) 0 M] 54)).2,(World.ownsRow_made (base:=w.heap.size) (e:=3) (size:=1) d (madeCells #[Z G 0] M) M (ko n.1.size hs1) uO (by simp[madeCells])).alloc _,oM,((f.alloc f.size _).alloc sO _).drew⟩
     case brB =>
      rw[if_pos rR];go_simp;have hBz:Below U.heap.size U (d.alloc (ka #[Z G 0,Z G 0,J none 0 0] 54)).drew:=(f.alloc f.size _).drew;have hSd:=HS9.1 _ hBz;refine c.out _ _ hSd ?_;clear c;(try simp only[kf]);have gz0:(d.alloc (ka #[Z G 0,Z G 0,J none 0 0] 54)).drew.heap[d.heap.size]?=_:=aD d (ka #[Z G 0,Z G 0,J none 0 0] 54);have hlz:=lS gz0;generalize (d.alloc _).drew=Vz at *;have hq:U.heap.size<=d.heap.size:=hs1;generalize d.heap.size=l at *;refine aw 9 fun x c=>?_;go_simp;have hB1:Below U.heap.size U (Vz.alloc (ka (madeCells #[Z G 0] M) 3)):=hBz.alloc hBz.size _;have hSd:=HS9.1 _ hB1;refine c.out _ _ hSd ?_;clear c;(try simp only[kf]);refine ak 10 ?_;have gz:=((aq Vz (ka (madeCells #[Z G 0] M) 3)).block l hlz).trans gz0;have ho:=World.ownsRow_made (base:=w.heap.size) (e:=3) (size:=1) Vz (madeCells #[Z G 0] M) M (ko n.1.size hBz.size) uO (by simp[madeCells]);generalize Vz.alloc _=Vy at *;generalize Vz.heap.size=MX at *;obtain ⟨Q,R,S⟩:=al gz;obtain ⟨f0,f1,f2⟩:=fZ gz;obtain ⟨vS,_,_,_⟩:=eo gz (Z G r.w) (Z G r.h) (J (some ⟨MX,0,none⟩) 0 M) w (ko n.1.size hq) (n.1.trans (hB1.mono n.1.size));have hB4:=bf hB1 hq (Z G r.w) (Z G r.h) (J (some ⟨MX,0,none⟩) 0 M);have hne:(J (some ⟨MX,0,none⟩) 0 M).ownBlock≠some l:=fun e=>aW ho gz dD e.symm;have HO:=qH (Dv ho hne (Z G r.w) (Z G r.h) (J (some ⟨MX,0,none⟩) 0 M));refine aS fun x c=>?_;go_simp;refine c.out _ _ ?_;clear c;(try simp only[kf]);clear hSd;go_wp2;go_meet
      case rel=>exact ⟨l,some ⟨MX,0,none⟩,M,rfl,vS,HO.1,hq,hB4⟩
    case rest =>
     obtain ⟨l,so0,cap0,rfl,vS0,vO0,hQX,vB0⟩:=hcut;have HJ0:=qH (show kt w r RQ l 0 wc from ⟨so0,cap0,rfl,vS0,vO0,(vB0.block _ O).trans L,(vB0.block _ hl2).trans a2,aG n.1 vB0⟩);have hQw:w.heap.size+1<l:=oM;obtain ⟨s0,s1,s2,s3,s4,s5,s6,s13,s26⟩:=HRC.1 _ ((vB0.block _ O).trans L);clear vS0 vO0 vB0 hs1 HS9 K hmk hM hwm hM4 f;have HUW:=qH n.1.size;clear HZZ H HBZ L a2 O hl2 n hQX;(go_wp2_with fail);clear s0 s1 s2 s3 s4 s5 s6 s13 s26;go_loopw [44] (fun i wr=>∃k:Nat,k<=r.strips.length/\i=Z G k/\kt w r RQ l k wr) (fun i _=>r.strips.length-(intOf i).toNat)
     case atStart=>exact ⟨0,kv _,rfl,HJ0.1⟩
     case round =>
      clear HJ0;obtain ⟨k,hk,rfl,hJ⟩:=hrel;have HJ:=qH hJ;obtain ⟨so,cap,j1,j3,j4,j5,j6,j8⟩:=hJ;by_cases hlt:k<r.strips.length
      ·have hd:decide ((k:Int)<(r.strips.length:Int))=true:=sO;obtain ⟨sb,soff,rfl,hsb,hsc0⟩:=(HST.1.below j8 (kh _)).at k hlt;have hlc:k<aV r:=(by have:=HNC.1;omega);have HSR:=qH (fun (u:World)=>HSR0.1 k u I.1 hlc);have HRS:=qH (fun (u:World) (hu:Below w.heap.size w u)=>HRS0.1 k u I.1 hlc hu);have HEI:=qH (I.1.stE hlc (cK r k));have HLN:=qH (fun T=>pt I.1 hlc (s:=cK r k) T);have HSZ:=qH (I.1.size hlc);have hsc:wr.cell? ⟨sb,soff+k,none⟩=some (.string (lh (cK r k))):=hsc0;clear hsc0;have HZF:=qH (fun hk0=>xM (r:=r) hlt hk0);have HPL:=qH (qj I.1 k oM j1);have HSU:=qH (oe r k);have HOK:=qH (show stE r (cK r k) (aE r k)=0->fE r (k+1)=true from fun T=>by rw[ox,j1,T];rfl);generalize cK r k=SS at *;generalize aE r k=RN at *;have O:=lS j5;have K:=qH (show ∀v,Below wr.heap.size wr v->v.heap[w.heap.size]?=some (.cells RQ 57 (0,0))/\True from fun v h=>⟨(h.block _ O).trans j5,trivial⟩);clear j1 j3 j4 j5 j6 HSR0 HRS0;(go_upto_region 13 with fail);have A:Below wr.heap.size wr wr.drew:=(Below.refl _ _).drew;have hSd:=K.1 _ A;refine cE 10 K.1 ?_;refine dS (i:=0) (oi:=_) (v:=.agg RQ) (some 50) [] rfl rfl kR kR kR kR kR (fun _ _ _ h=>h) (Or.inl ⟨rR,?yy16⟩) hSd ?rr16
       case yy16=>(intro wq hSq;obtain ⟨hq1,hq2⟩:=hSq;exact nP 57 _ rfl _ rfl _ _ _ _ hq1 underlying57 rfl hi28)
       simp only[kf,kb,kd,kc];refine ak 1 ?_;refine dS (i:=2) (oi:=_) (v:=.agg RQ) (some 52) [] rfl rfl kR kR kR kR kR (fun _ _ _ h=>h) (Or.inl ⟨rR,?yy18⟩) hSd ?rr18
       case yy18=>(intro wq hSq;obtain ⟨hq1,hq2⟩:=hSq;exact nP 57 _ rfl _ rfl _ _ _ _ hq1 underlying57 rfl hi28)
       simp only[kf,kb,kd,kc];refine ak 3 ?_;refine aw 4 fun x c=>?_;go_simp;refine (HSR.1 _).mono ?_;rintro e X1 ⟨rfl,hx1⟩;have hX1:Below wr.heap.size wr X1:=A.trans (hx1.mono A.size);have hSd:=K.1 _ hX1;refine c.out _ _ hSd ?_;clear c;(try simp only[kf]);refine aw 5 fun x c=>?_;go_simp;refine (HRS.1 _ (aG j8 hX1)).mono ?_;rintro e X2 ⟨v,rfl,hv,hx2⟩;have hX2:Below wr.heap.size wr X2:=aG hX1 hx2;have HV:=qH hv;obtain ⟨vo,vc,rfl,y1,y2⟩:=hv;clear y1 y2;have hSd:=K.1 _ hX2;refine c.out _ _ hSd ?_;clear c;(try simp only[kf]);refine ak 6 ?_;refine ak 7 ?_;refine ak 8 ?_;refine aw 9 fun x c=>?_;go_simp;have hSd:=hSd;refine c.out _ _ hSd ?_;clear c;(try simp only[kf]);refine aS fun x c=>?_;go_simp;refine c.out _ _ ?_;clear c;(try simp only[kf]);clear hSd A hx1 hx2 hX1;have HJ2:=qH (HJ.1.below hX2);clear HJ j8 K HRS HSR;obtain ⟨so,cap,k1,k3,k4,k5,k6,k8⟩:=HJ2.1;by_cases T:stE r SS RN=0
       ·rw[T];have hln:=HLN.1 T;have hsz:=HSZ.1;have HOW:=qH k4;have HK3:=qH k3;obtain ⟨q0,q1,q2⟩:=al k3;have hpl:=HPL.1;generalize ey r SS RN=Y at *;have HVP:=qH (HV.1);obtain ⟨vo',vc',hve,_,hvo⟩:=HVP.1;cases hve
        rcases hvo with hvo|⟨pb,po,rfl,hpb,hpc⟩
        ·exfalso;rw[hvo] at hln;simp at hln;omega
        have HFC:=qH (show ∀j u,(Y.map (Z .i64))[j]?=some u->X2.cell? ((⟨pb,po,none⟩:Addr).add j)=some u from fun j u hj=>by
         rw[List.getElem?_map] at hj;obtain ⟨z,hz,rfl⟩:=Option.map_eq_some_iff.1 hj;obtain ⟨hl,rfl⟩:=List.getElem?_eq_some_iff.1 hz;rw[Addr.add_lit];exact hpc j hl)
        obtain ⟨P,hPU⟩:=eX (cz r k);rw[hPU] at HOW HK3 HSU hpl q2;have hyl:Y.length<=4096:=oM;have hy1:1<=Y.length:=oM;have hk8s:=k8.size;clear hpc hln hsz;go_wp2_with (at_builtin;refine wpList_append_own _ rfl _ _ 52 rfl w.heap.size 3 i0 (Z G 0) 1 8 underlying52 hi hz0 hz1 hz2 rfl dD _ P.length (P.map (Z .i64)) rfl HOW.1 ⟨pb,po,none⟩ Y.length vc (Y.map (Z .i64)) rfl ?qc1 ?qc2 ?qc3 ?qc4 ?qc5 ?qc6 ?_)
        case qc1=>rw[List.length_map,Nat.mul_one]
        case qc2=>exact HFC.1
        case qc3=>intro u hu;obtain ⟨z,_,rfl⟩:=List.mem_map.1 hu;rfl
        case qc4=>unfold maxLen;omega
        case qc5=>omega
        case qc6=>exact hk8s
        intro v' w1 hown hgrow hnil;rcases id hown.2 with ⟨_,hn0⟩|⟨g,cp,cur,rfl,_⟩
        ·exfalso;omega
        obtain ⟨_,c2,fz,g1,g2,g3,g4⟩:=jj dD HK3.1 HOW.1 k8 (kh _) (show w.heap.size<=l from oM) (Below.refl _ _) hgrow hown;have hpe:(cz r (k+1)).length=P.length+Y.length:=(by rw[HSU.1,kw]);have hpm:(cz r (k+1)).map (Z .i64)=P.map (Z .i64)++Y.map (Z .i64):=(by rw[HSU.1,List.map_append]);have HJ3:=qH (show kt w r RQ l (k+1) _ from ⟨some ⟨g,0,none⟩,cp,HOK.1 T,by rw[hpe];exact g1,by rw[hpe,hpm];exact g2,
         (g4 _ (lS k5) (aW (by rw[hPU] at k4;exact k4) k5 dD) oM).trans k5,(g4 _ (lS k6) (aW (by rw[hPU] at k4;exact k4) k6 dD) oM).trans k6,g3⟩)
        clear g1 g2 g3 g4 k1 k3 k4 k5 k6 k8 hown hgrow hnil q0 q1 q2 hpe hpm;go_wp2;go_roundw
        case rel=>exact ⟨k+1,hlt,gN,HJ3.1⟩
        case measure=>simp[intOf];omega
       ·rcases HEI.1 with B|B
        ·exact absurd B T
        rw[B];have hzf:=HZF.1 T;have hee:E=1:=(by rw[o.1,hzf];rfl);subst hee;have hz:a=[]:=(by rw[HZ.1];rfl);have aa:PW=0:=(by rw[HW.1];rfl);have X:PH=0:=(by rw[HH.1];rfl);subst hz aa X;obtain ⟨Q,R,S⟩:=al k6;obtain ⟨f0,f1,f2⟩:=fZ k6;have HBZ:=qH (bf k8 (show w.heap.size<=w.heap.size+1 from oM) (Z G 0) (Z G 0) (J none 0 0));clear k1 k3 k4 k5 k6 k8;go_wp2;refine bodyPost_ret (v:=.tuple #[.agg #[Z G 0,Z G 0,J none 0 0],Z G 1]) (by simp[results,results48,go_sem,Q,R,S]) rfl ⟨_,rfl,ap.nil _,HBZ.1,ar.nil _⟩
      ·have hd:decide ((k:Int)<(r.strips.length:Int))=false:=sO;obtain rfl:k=r.strips.length:=oM;have B:E=0:=(by rw[o.1,if_pos j1]);subst B;rw[if_pos rfl] at HZ HW HH;obtain ⟨y0,y1,y2⟩:=al j3;obtain ⟨Q,R,S⟩:=al j6;obtain ⟨f0,f1,f2⟩:=fZ j6;have hpl:=qj I.1 r.strips.length (by have:=HNC.1;omega) j1;have hne:(J so (cz r r.strips.length).length cap).ownBlock≠some (w.heap.size+1):=fun e=>aW j4 j6 dD e.symm;have hpx:ap wr (J so (cz r r.strips.length).length cap) (cz r r.strips.length):=ap.own j4 oM;have HX:=qH (hpx.other (gK wr (w.heap.size+1) (Z G r.w) (Z G r.h) (J so (cz r r.strips.length).length cap)) (fun b hb=>eL _ _ _ _ _ b hb) hne);have HF:=qH (bf j8 (show w.heap.size<=w.heap.size+1 from oM) (Z G r.w) (Z G r.h) (J so (cz r r.strips.length).length cap));have HFR:=qH (ar.own j4);have aa:=HW.1;have X:=HH.1;have hzz:=HZ.1;obtain ⟨N,W⟩:=eX ((cz r r.strips.length).length);rw[W] at HX HF HFR y2;rw[<-hzz] at HX;clear j1 j3 j4 j5 j6 j8 hpx hne W hpl hzz HZ HW HH;subst aa X;go_wp2;refine bodyPost_ret (v:=.tuple #[.agg #[Z G r.w,Z G r.h,J so N cap],Z G 0]) (by simp[results,results48,go_sem,Q,R,S]) rfl ⟨_,rfl,HX.1,HF.1,HFR.1⟩
   ·rw[if_neg hP] at o;have hn:(cU r != 0)=true:=(by simpa using hP);have B:E=cU r:=o.1;subst B;have t:=qH hP;have hz:a=[]:=(by rw[HZ.1,if_neg t.1]);have aa:PW=0:=(by rw[HW.1,if_neg t.1]);have X:PH=0:=(by rw[HH.1,if_neg t.1]);subst hz aa X;obtain ⟨Q,R,S⟩:=HZZ.1 d f;have f0:=H.1 d f 0;have f1:=H.1 d f 1;have f2:=H.1 d f 2;go_wp2;refine bodyPost_ret (v:=.tuple #[.agg #[Z G 0,Z G 0,J none 0 0],Z G (cU r)]) (by simp[results,results48,go_sem,Q,R,S]) rfl ⟨_,rfl,ap.nil _,HBZ.1 d f,ar.nil _⟩
  ·rw[if_neg W] at o;have hn:((r.strips.length:Int) != (aV r:Int))=true:=bne_iff_ne.2 oM;have B:E=2:=o.1;subst B;have t:=qH (show ¬(2:Int)=0 from dD);clear W;generalize aV r=C at *;have hz:a=[]:=(by rw[HZ.1,if_neg t.1]);have aa:PW=0:=(by rw[HW.1,if_neg t.1]);have X:PH=0:=(by rw[HH.1,if_neg t.1]);subst hz aa X;obtain ⟨Q,R,S⟩:=HZZ.1 V2 m;have f0:=H.1 V2 m 0;have f1:=H.1 V2 m 1;have f2:=H.1 V2 m 2;go_wp2;refine bodyPost_ret (v:=.tuple #[.agg #[Z G 0,Z G 0,J none 0 0],Z G 2]) (by simp[results,results48,go_sem,Q,R,S]) rfl ⟨_,rfl,ap.nil _,HBZ.1 V2 m,ar.nil _⟩
 ·rw[if_neg hF] at o;have hn:(da r != 0)=true:=by simpa using hF
  have B:E=da r:=o.1;subst B;have t:=qH hF;have hz:a=[]:=by rw[HZ.1,if_neg t.1]
  have aa:PW=0:=by rw[HW.1,if_neg t.1]
  have X:PH=0:=by rw[HH.1,if_neg t.1]
  subst hz aa X;obtain ⟨Q,R,S⟩:=HZZ.1 V1 hb1;have f0:=H.1 V1 hb1 0;have f1:=H.1 V1 hb1 1;have f2:=H.1 V1 hb1 2;go_wp2;refine bodyPost_ret (v:=.tuple #[.agg #[Z G 0,Z G 0,J none 0 0],Z G (da r)]) (by simp[results,results48,go_sem,Q,R,S]) rfl ⟨_,rfl,ap.nil _,HBZ.1 V1 hb1,ar.nil _⟩
theorem xf (r:av) (b d c a:Value) (w:World) (k:cR w r b d c a) :
  Calls prog 103 #[.agg (aC r b d c a)] w (rT w (Z G (bU r))):=by
 have f:=qH (aq w (ka (aC r b d c a) 57));have i:=aD w (ka (aC r b d c a) 57);have g:=qH (fun (u:World) (l:Below w.heap.size w u)=>xj r b d c a u (k.below l (kh _)));generalize bU r=E at *;generalize dk r=o at *;generalize db r=n at *;go_enter func103,ntmps103;go_wp2_with (refine wpList_load_row rfl 57 _ rfl _ rfl _ _ _ _ i underlying57 rfl kR ?_)
 refine (g.1 _ f.1).mono ?_;rintro e p ⟨v,rfl,m,j,_⟩;obtain ⟨s,q,rfl,_,_⟩:=m;go_wp2;go_ret;exact ⟨rfl,aG (aG f.1 j) (aq _ _)⟩
def gc:List UInt8:=[100,97,114,107]
def pq (r:av):List Int:=[r.w,r.h,r.depth,r.kind,r.rows]
def fm (r:av):List UInt8:=ez gc++((pq r).flatMap bR++(jX bR r.lens++(jX ez r.strips++kg r.plan)))
theorem He (B b:Nat) (l:List UInt8) (w:World) (h:dl B b l w) (d:l≠[]) :
  Calls prog 32 #[.pointer (some ⟨b,0,none⟩)] w fun e w'=>e=.returned (.string (lh l))/\Below B w w':=by
 obtain ⟨p,C,v,k,c,F⟩:∃p,Lib.BuilderAt 195 5 B b p (aP l) w:=by
  rcases h with h|h
  ·exact ⟨_,h⟩
  ·exact ⟨_,h⟩
 have q:l.length≠0:=by simpa using d
 rw[kY] at c;obtain ⟨g,cap,a,rfl,i,n,s,f,m,t⟩:∃g cap a,v=J (some ⟨g,0,none⟩) l.length cap/\B<=g/\w.heap[g]?=some (.cells a 5 (0,0))/\l.length<=cap/\cap<=maxLen/\a.size=cap*1/\a.toList.take (l.length*1)=aP l:=by
  rcases c.2 with ⟨_,z⟩|⟨g,cap,a,u,r⟩
  ·exact absurd z q
  ·exact ⟨g,cap,a,u,r⟩
 have A:w.drew.cell? ⟨b,1,none⟩=some (J (some ⟨g,0,none⟩) l.length cap):=by
  have:w.drew.heap[b]?=some (.cells #[p,J (some ⟨g,0,none⟩) l.length cap] 195 (0,0)):=k;rw[Lib.cell_of_heap this];rfl
 have D:(Builtin.unsafeSliceData_ #[74] 147 #[J (some ⟨g,0,none⟩) l.length cap]).run prog w.drew=.ok (.pointer (some ⟨g,0,none⟩)) w.drew :=
  Lib.run_unsafeSliceData_row _ _ _ _ _ _ oM
 have E:(Builtin.unsafeString_ #[147,3] 9 #[.pointer (some ⟨g,0,none⟩),Z G l.length]).run prog w.drew=.ok (.string (lh l)) (w.drew.freeze ⟨g,0,none⟩ l.length):=by
  refine Lib.run_unsafeString_row w.drew 147 3 9 5 underlying147 kR g a.size (by have o:w.drew.heap[g]?=some (.cells a 5 (0,0)):=n;simp[World.shape?,o]) l d oM (by unfold maxLen at f;omega) ?_;intro j x y;have:=c.cells (g:=g) rfl j (.int .u8 x.toNat) (by rw[byt_get?,y];rfl);exact this
 clear c t s f m;have H:prog.follows .mixedOrders=true:=kR;go_enter func32,ntmps32;go_wp2;go_region_o
 all_goals (go_wp2;go_ret;exact ⟨rfl,Lib.below_freeze (Below.drew (Below.refl B w)) (p:=⟨g,0,none⟩) i _⟩)
theorem BV (w:World) (a b c d e:Int):ap (w.alloc (.cells #[Z G a,Z G b,Z G c,Z G d,Z G e] 3)) (J (some ⟨w.heap.size,0,none⟩) 5 5) [a,b,c,d,e] :=
 ap.own (base:=w.heap.size) (World.ownsRow_lit w #[Z G a,Z G b,Z G c,Z G d,Z G e] 5 (kh _) dD sS) sS
theorem Dp {B b:Nat} {u:Value} {xs:List Int} {w V:World} (h:ap w u xs) (e:w.heap.size<=B):xs=[]\/jL B b u V:=by
 obtain ⟨d,cap,rfl,_,h⟩:=h;rcases h with h|⟨c,off,rfl,f,_⟩
 ·exact .inl h
 ·exact .inr fun k a _=>by simp only[Value.ownBlock,Option.some.injEq] at a;exact .inl oM
theorem vX {B b:Nat} {u:Value} {xs:List Pt} {w V:World} (h:bo w u xs) (e:w.heap.size<=B):xs=[]\/jL B b u V:=by
 obtain ⟨d,cap,rfl,_,h⟩:=h;rcases h with h|⟨c,off,rfl,f,_⟩
 ·exact .inl h
 ·exact .inr fun k a _=>by simp only[Value.ownBlock,Option.some.injEq] at a;exact .inl oM
theorem rE {ts:List (List UInt8)} {k:Nat} (a:k<ts.length):ts.getD k []=ts[k]:=by simp[a]
theorem Gy (ts:List (List UInt8)) (k:Nat) (a:k<ts.length):(ts.take (k+1)).flatMap ez=(ts.take k).flatMap ez++ez (ts.getD k []):=by
 rw[List.take_succ_eq_append_getElem a,List.flatMap_append,rE a];simp
theorem GB {ts:List (List UInt8)} {M:Nat} (h:∀s∈ts,s.length<=M) (k:Nat):((ts.take k).flatMap ez).length<=k*(M+4):=by
 induction k generalizing ts with
 | zero=>simp
 | succ k ih =>
  cases ts with
  | nil=>simp
  | cons s ts =>
   have b:=ih (ts:=ts) (fun x a=>h x (by simp[a]));have c:=h s sS;rw[List.take_succ_cons,List.flatMap_cons,kw,ez,kw,kC,Nat.add_mul];omega
theorem zq (r:av) (lv tv D C:Value) (w:World) (hr:cR w r lv tv D C) (g1:r.lens.length<=1048576) (g2:r.strips.length<=64) (g3:∀s∈r.strips,s.length<=1048576) (g4:r.plan.spots.length<=1048576) (g5:r.plan.curve.length<=1048576) :
  Calls prog 104 #[.agg (aC r lv tv D C)] w (rT w (.string (lh (fm r)))):=by
 have O:=qH hr;obtain ⟨lp,lc,rfl,hll,hlr⟩:=hr.lens;obtain ⟨tp,tc,rfl,htl,htr⟩:=hr.strips;have HT:=qH (GB g3);have HGS:=qH (show ∀k,k<r.strips.length->(r.strips.getD k []).length<=1048576 from fun k hk=>g3 _ (by rw[rE hk];exact List.getElem_mem hk));clear hr g3 hlr htr;obtain ⟨a1,a2,HB⟩:=gr w (ka (aC r (J lp r.lens.length lc) (J tp r.strips.length tc) D C) 57) (ka #[.pointer none,J none 0 0] 195);have hl1:=lS a1;have hl2:=lS a2;have HT0:=qH (qk a1);have HWS:=au (show dl (w.heap.size+1) (w.heap.size+1) [] ((w.alloc (ka (aC r (J lp r.lens.length lc) (J tp r.strips.length tc) D C) 57)).alloc (ka #[.pointer none,J none 0 0] 195)) from .inl ⟨kh _,_,a2,⟨rfl,.inl ⟨rfl,rfl⟩⟩,by simp[Value.ownBlock]⟩);have ac:=qH (fun (v:World) (h:v.heap[w.heap.size]?=some (.cells (aC r (J lp r.lens.length lc) (J tp r.strips.length tc) D C) 57 (0,0)))=>eJ h);have HPA:=qH (fun (v:World) (h:v.heap[w.heap.size]?=some (.cells (aC r (J lp r.lens.length lc) (J tp r.strips.length tc) D C) 57 (0,0)))=>qk h);obtain ⟨o,p,t,x,y,z,A,q,u⟩:=eJ a1;go_enter func104,ntmps104;go_wp2_with fail
 clear o p t x y z A q u HT0;generalize (w.alloc _).alloc _=U at *;generalize (aC r (J lp r.lens.length lc) (J tp r.strips.length tc) D C)=RQ at *;have aa:w.heap.size+1<=U.heap.size:=oM;have ab:w.heap.size+1<U.heap.size:=hl2;have HBV:=qH (show ∀V,bK (w.heap.size+1) (w.heap.size+1) U V->Below w.heap.size w V from fun V hV=>HB.1.trans (hV.bel.mono oM));have N:=qH (show ∀V,bK (w.heap.size+1) (w.heap.size+1) U V->V.heap[w.heap.size]?=some (.cells RQ 57 (0,0)) from fun V hV=>(hV.bel.block _ oM).trans a1);have a:=qH (bK.refl (w.heap.size+1) (w.heap.size+1) U);clear a1 a2 hl1 hl2;have l:=HWS;have m:=au (show ([]:List UInt8).length<=0 from kh _);clear HWS;have f:w.heap.size+1<=U.heap.size:=ko aa a.1.bel.size;have j:w.heap.size+1<U.heap.size:=km ab a.1.bel.size;refine (yE (w.heap.size+1) (w.heap.size+1) [] gc _ l.out dD f j).mono ?_;rintro e W ⟨rfl,d,g⟩;replace a:=qH (a.1.trans g);obtain ⟨P,HQ1⟩:∃P,Hid (([]:List UInt8)++ez gc=P):=⟨_,rfl⟩;rw[HQ1.out] at d;replace l:=au d;replace m:=au (show P.length<=8 by rw[<-HQ1.out,kw,show (ez gc).length=8 from rfl];have:=m.out;(try simp);(try omega));clear d g f j;obtain ⟨o,p,t,x,y,z,A,q,u⟩:=ac.1 _ (N.1 W a.1);go_wp2_with fail
 clear o p t x y z A q u;have f:w.heap.size+1<=W.heap.size:=ko aa a.1.bel.size;have j:w.heap.size+1<W.heap.size:=km ab a.1.bel.size;have n:=qH (bK.alloc (B:=(w.heap.size+1)) (b:=(w.heap.size+1)) f (ka #[Z G r.w,Z G r.h,Z G r.depth,Z G r.kind,Z G r.rows] 3));have I:=qH (l.out.alloc (ka #[Z G r.w,Z G r.h,Z G r.depth,Z G r.kind,Z G r.rows] 3));have F:=qH (BV W r.w r.h r.depth r.kind r.rows);have M:=aD W (ka #[Z G r.w,Z G r.h,Z G r.depth,Z G r.kind,Z G r.rows] 3);have E:=qH (jH (B:=(w.heap.size+1)) (b:=(w.heap.size+1)) (c:=5) (ca:=5) (xs:=[]) M oM dD);have H:=qH (show P.length+([r.w,r.h,r.depth,r.kind,r.rows]:List Int).length*4<=140737488355328 by have:=m.out;simp;omega);have K:=ko f n.1.bel.size;have L:=km j n.1.bel.size;clear M;generalize W.alloc _=VA at *;replace a:=qH (a.1.trans n.1);refine (ik (w.heap.size+1) (w.heap.size+1) P _ [r.w,r.h,r.depth,r.kind,r.rows] _ I.1 F.1 E.1 H.1 K L).mono ?_;rintro e X ⟨rfl,d,g⟩;replace a:=qH (a.1.trans g);obtain ⟨Q,HQ2⟩:∃Q,Hid (P++([r.w,r.h,r.depth,r.kind,r.rows]:List Int).flatMap bR=Q):=⟨_,rfl⟩;rw[HQ2.out] at d;replace l:=au d;replace m:=au (show Q.length<=28 by rw[<-HQ2.out,kw,hU];have:=m.out;(try simp);(try omega));clear d g f j;clear n I F E H K L;obtain ⟨o,p,t,x,y,z,A,q,u⟩:=ac.1 _ (N.1 X a.1);go_wp2_with fail
 clear o p t x y z A q u;have f:w.heap.size+1<=X.heap.size:=ko aa a.1.bel.size;have j:w.heap.size+1<X.heap.size:=km ab a.1.bel.size;have n:=qH (bK.alloc (B:=(w.heap.size+1)) (b:=(w.heap.size+1)) f (ka #[Z G r.lens.length] 3));have I:=qH (l.out.alloc (ka #[Z G r.lens.length] 3));have F:=qH (dA X r.lens.length);have M:=aD X (ka #[Z G r.lens.length] 3);have E:=qH (jH (B:=(w.heap.size+1)) (b:=(w.heap.size+1)) (c:=1) (ca:=1) (xs:=[]) M oM dD);have H:=qH (show Q.length+([(r.lens.length:Int)]:List Int).length*4<=140737488355328 by have:=m.out;simp;omega);have K:=ko f n.1.bel.size;have L:=km j n.1.bel.size;clear M;generalize X.alloc _=VA at *;replace a:=qH (a.1.trans n.1);refine (ik (w.heap.size+1) (w.heap.size+1) Q _ [(r.lens.length:Int)] _ I.1 F.1 E.1 H.1 K L).mono ?_;rintro e V3 ⟨rfl,d,g⟩;replace a:=qH (a.1.trans g);obtain ⟨L3,HQ3⟩:∃L3,Hid (Q++([(r.lens.length:Int)]:List Int).flatMap bR=L3):=⟨_,rfl⟩;rw[HQ3.out] at d;replace l:=au d;replace m:=au (show L3.length<=32 by rw[<-HQ3.out,kw,hU];have:=m.out;(try simp);(try omega));clear d g f j;clear n I F E H K L;obtain ⟨o,p,t,x,y,z,A,q,u⟩:=ac.1 _ (N.1 V3 a.1);go_wp2_with fail
 clear o p t x y z A q u;have f:w.heap.size+1<=V3.heap.size:=ko aa a.1.bel.size;have j:w.heap.size+1<V3.heap.size:=km ab a.1.bel.size;have HI4:=O.1.lens.below (HBV.1 _ a.1) (kh _);have HA4:=Dp (B:=w.heap.size+1) (b:=w.heap.size+1) (V:=V3) O.1.lens oM;refine (yn (w.heap.size+1) (w.heap.size+1) L3 _ r.lens _ l.out HI4 HA4 (by have:=m.out;omega) f j).mono ?_;rintro e Y ⟨rfl,d,g⟩;replace a:=qH (a.1.trans g);obtain ⟨R,HQ4⟩:∃R,Hid (L3++r.lens.flatMap bR=R):=⟨_,rfl⟩;rw[HQ4.out] at d;replace l:=au d;replace m:=au (show R.length<=4194336 by rw[<-HQ4.out,kw,hU];have:=m.out;(try simp);(try omega));clear d g f j;clear HI4 HA4;obtain ⟨o,p,t,x,y,z,A,q,u⟩:=ac.1 _ (N.1 Y a.1);go_wp2_with fail
 clear o p t x y z A q u;have f:w.heap.size+1<=Y.heap.size:=ko aa a.1.bel.size;have j:w.heap.size+1<Y.heap.size:=km ab a.1.bel.size;have n:=qH (bK.alloc (B:=(w.heap.size+1)) (b:=(w.heap.size+1)) f (ka #[Z G r.strips.length] 3));have I:=qH (l.out.alloc (ka #[Z G r.strips.length] 3));have F:=qH (dA Y r.strips.length);have M:=aD Y (ka #[Z G r.strips.length] 3);have E:=qH (jH (B:=(w.heap.size+1)) (b:=(w.heap.size+1)) (c:=1) (ca:=1) (xs:=[]) M oM dD);have H:=qH (show R.length+([(r.strips.length:Int)]:List Int).length*4<=140737488355328 by have:=m.out;simp;omega);have K:=ko f n.1.bel.size;have L:=km j n.1.bel.size;clear M;generalize Y.alloc _=VA at *;replace a:=qH (a.1.trans n.1);refine (ik (w.heap.size+1) (w.heap.size+1) R _ [(r.strips.length:Int)] _ I.1 F.1 E.1 H.1 K L).mono ?_;rintro e V5 ⟨rfl,d,g⟩;replace a:=qH (a.1.trans g);obtain ⟨S,HQ5⟩:∃S,Hid (R++([(r.strips.length:Int)]:List Int).flatMap bR=S):=⟨_,rfl⟩;rw[HQ5.out] at d;replace l:=au d;replace m:=au (show S.length<=4194340 by rw[<-HQ5.out,kw,hU];have:=m.out;(try simp);(try omega));clear d g f j;clear n I F E H K L;obtain ⟨o,p,t,x,y,z,A,q,u⟩:=ac.1 _ (N.1 V5 a.1);go_wp2_with fail
 clear o p t x y z A q u;go_loopw [35] (fun i wr=>∃k:Nat,k<=r.strips.length/\i=Z G k/\dl (w.heap.size+1) (w.heap.size+1) (S++(r.strips.take k).flatMap ez) wr/\bK (w.heap.size+1) (w.heap.size+1) U wr) (fun i _=>r.strips.length-(intOf i).toNat)
 case atStart=>exact ⟨0,kv _,rfl,by simpa using l.out,a.1⟩
 case round =>
  obtain ⟨k,hk,rfl,hW,hS⟩:=hrel;have HLL:=m;clear a l;have a:=qH hS;have l:=au hW;clear hW hS;have f:w.heap.size+1<=wr.heap.size:=ko aa a.1.bel.size;have j:w.heap.size+1<wr.heap.size:=km ab a.1.bel.size;have htk:=HT.1 k;by_cases hlt:k<r.strips.length
  ·have hd:decide ((k:Int)<(r.strips.length:Int))=true:=sO;obtain ⟨bq,oq,rfl,hbq,d0⟩:=(O.1.strips.below (HBV.1 _ a.1) (kh _)).at k hlt;have hgs:=HGS.1 k hlt;obtain ⟨T,hTT⟩:=eX (r.strips.getD k []);rw[hTT] at d0 hgs;have HTT:=qH hTT;clear hTT;(go_wp2_with fail);clear d0;refine (yE (w.heap.size+1) (w.heap.size+1) _ T _ l.out (by have:=HLL.out;rw[kw];omega) f j).mono ?_;rintro e X2 ⟨rfl,d,g⟩;have HST2:=qH (a.1.trans g);have HW2:=qH (show dl (w.heap.size+1) (w.heap.size+1) (S++(r.strips.take (k+1)).flatMap ez) X2 by rw[Gy _ k hlt,HTT.1,<-kG];exact d);clear d g f j htk;go_wp2;go_roundw
   case rel=>exact ⟨k+1,hlt,gN,HW2.1,HST2.1⟩
   case measure=>simp[intOf];omega
  ·have hd:decide ((k:Int)<(r.strips.length:Int))=false:=sO;obtain rfl:k=r.strips.length:=oM;rw[List.take_length] at l htk;obtain ⟨L6,HQ6⟩:∃L6,Hid (S++r.strips.flatMap ez=L6):=⟨_,rfl⟩;rw[HQ6.out] at l;have HL6:=qH (show L6.length<=1099511627776 by rw[<-HQ6.out,kw];have:=HLL.out;omega);have HPP:=qH (O.1.plan.below (HBV.1 _ a.1) (kh _));have HP0:=qH (HPA.1 _ (N.1 _ a.1));clear HLL m htk HT HGS;(go_wp2_with (refine oG rfl 51 _ rfl _ 7 rfl (aO r.plan D C) _ HP0.1 underlying51 rfl kR ?_));refine (Ho (w.heap.size+1) (w.heap.size+1) L6 r.plan D C _ l.out HPP.1 (vX O.1.plan.spots oM) (vX O.1.plan.curve oM) HL6.1 g4 g5 f j).mono ?_;rintro e X3 ⟨rfl,d,g⟩;have HST3:=qH (a.1.trans g);have HE:=qH (show L6++kg r.plan=fm r by
    rw[<-HQ6.out,<-HQ5.out,<-HQ4.out,<-HQ3.out,<-HQ2.out,<-HQ1.out];simp[fm,pq,jX,kG])
   rw[HE.1] at d;have HW3:=qH d;clear d g;(go_wp2_with fail);refine (He (w.heap.size+1) (w.heap.size+1) (fm r) _ HW3.1 (by simp[fm,ez,bR])).mono ?_;rintro e X4 ⟨rfl,hb4⟩;have HF:=qH ((HBV.1 _ HST3.1).trans (hb4.mono oM));go_wp2;go_ret;exact ⟨rfl,HF.1⟩
theorem re {a:List Pt} (h:cY a=true):a.length<=16:=by
 simp only[cY,jp,Bool.and_eq_true,decide_eq_true_eq] at h;omega
theorem F9 {r:av} (h:bJ r) {i:Nat} (e:i<aV r) {s:List UInt8} (b:stE r s (aE r i)=0):s.length<=15360:=by
 obtain ⟨l,m⟩:=h.size e;obtain ⟨n,o⟩:=h.row e;have q:=h.w;have p:=h.depth;by_cases f:r.kind=0
 ·obtain ⟨g,k⟩:=oy f s (aE r i);rw[g] at b;have d:=tf b;simp only[em,decide_eq_true_eq] at d;rw[d.2.2.2.1];have:(aE r i*r.w).toNat*r.depth.toNat<=4096*16:=xa oM oM;omega
 ·have a:bp s r.w (aE r i) r.kind r.lens=0:=by
   rw[stE,if_neg f] at b;split at b
   ·assumption
   ·exact b
  have j:(dY s r.w (aE r i) r.kind r.lens).isSome=true:=by
   unfold bp at a;split at a
   ·split at a
    ·split at a
     ·split at a
      ·assumption
      ·cases a
     ·rename_i hc;exact absurd a hc
    ·cases a
   ·cases a
  obtain ⟨zs,c⟩:=Option.isSome_iff_exists.1 j;rw[dY] at c;split at c
  ·rename_i hl;have:r.w.toNat*(aE r i).toNat<=64*64:=xa oM oM;have:r.w.toNat*(aE r i).toNat*30<=4096*30:=Nat.mul_le_mul_right _ this;omega
  ·cases c
structure gq (r:av):Prop where
 head:bJ r
 many:r.strips.length=aV r
 plan:cJ r.plan=0
 spots:cP r.w r.h r.plan.spots=true
 strips:fE r r.strips.length=true
theorem lw {r:av} (h:bU r=0):gq r:=by
 unfold bU at h;split at h
 ·rename_i h1;split at h
  ·rename_i h2;split at h
   ·rename_i h3;split at h
    ·rename_i h4;unfold cU at h3;split at h3
     ·rename_i h5;split at h3
      ·rename_i h6;exact ⟨nU h1,h2,h5,h6,h4⟩
      ·cases h3
     ·rename_i h5;exact absurd h3 h5
    ·cases h
   ·rename_i h3;exact absurd h h3
  ·cases h
 ·rename_i h1;exact absurd h h1
theorem gq.zero {r:av} (h:gq r):bU r=0:=by
 rw[bU,if_pos h.head.zero,if_pos h.many,if_pos (by rw[cU,if_pos h.plan,if_pos h.spots]),if_pos h.strips]
theorem gq.lens_le {r:av} (h:gq r):r.lens.length<=17:=by
 have:=h.head.lens;unfold iQ at this;split at this
 ·split at this
  ·omega
  ·cases this
 ·exact (fW this).2.1
theorem gq.strip_le {r:av} (h:gq r):∀s∈r.strips,s.length<=15360:=by
 intro s c;obtain ⟨i,b,rfl⟩:=List.getElem_of_mem c;have a:=F7 h.strips b;rw[cK,rE b] at a;exact F9 h.head (by have:=h.many;omega) a
def ol (r:av):List UInt8:=if bU r=0 then fm r else []
theorem Ev (r:av) (d g f a:Value) (w:World) (m:cR w r d g f a) :
  Calls prog 45 #[.agg (aC r d g f a)] w (rT w (.tuple #[.string (lh (ol r)),Z G (bU r)])):=by
 have o:=qH (aq w (ka (aC r d g f a) 57));have l:=aD w (ka (aC r d g f a) 57);have z:=lS l;have v:=qH (fun (u:World) (n:Below w.heap.size w u)=>xf r d g f a u (m.below n (kh _)));have p:=qH (fun (b:bU r=0) (u:World) (n:Below w.heap.size w u)=>zq r d g f a u (m.below n (kh _)) (by have:=(lw b).lens_le;omega) (by have:=(lw b).many;have:=(lw b).head.cnt_le;omega) (fun s i=>by have:=(lw b).strip_le s i;omega) (by have:=(kK (lw b).plan).2.2.2.2.2.1;omega) (by have:=re (kK (lw b).plan).2.2.2.2.2.2.2;omega));have j:=qH (show ol r=if bU r=0 then fm r else [] from rfl);generalize ol r=S at *;generalize fm r=A at *;clear m;go_enter func45,ntmps45;go_wp2_with (refine wpList_load_row rfl 57 _ rfl _ rfl _ _ _ _ l underlying57 rfl kR ?_)
 generalize w.alloc _=U at *;refine (v.1 _ o.1).mono ?_;rintro e B ⟨rfl,q⟩;have k:=qH (aG o.1 q);by_cases c:bU r=0
 ·rw[c];rw[if_pos c] at j;have i:=j.1;subst i;have t:=qH (p.1 c);have x:=(q.block _ z).trans l;go_wp2_with (refine wpList_load_row rfl 57 _ rfl _ rfl _ _ _ _ x underlying57 rfl kR ?_)
  refine (t.1 _ k.1).mono ?_;rintro e C ⟨rfl,y⟩;go_wp2;go_ret2;exact ⟨mr rfl (congrArg (Z .i64) c.symm),aG k.1 y⟩
 ·have D:(bU r != 0)=true:=by simpa using c
  rw[if_neg c] at j;have i:=j.1;subst i;clear p;go_wp2;go_ret2;exact ⟨rfl,k.1⟩
end Go.Proofs.YtfjeonehdlphiaaGreatDoor
